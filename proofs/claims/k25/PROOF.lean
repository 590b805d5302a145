import PyProof.Rows.All
import Wide.All
import OpenK.AllK
import Wide.FinOn
import PyProof.ReprRoads
import PyProof.EqAt
import PyProof.EqKinds
import PyProof.TupleCall
import HandS.Base
import HandS.Call
import HandS.List
import HandS.Comp
import HandS.Dict
import HandS.Iter
import HandS.Text
import HandS.Ends
import HandS.Words
import HandS.Codes
import HandS.Conv
import HandS.TupAny
import HandS.TupMul
import HandS.IsInst
import HandS.Style
import HandS.Wide
import HandS.SortInts
import HandS.Deep
import KE.KEqNest
import HandS.More
import PyProof.Rows.ReprOcc
import PyProof.Ascii
import PyProof.Rows.StrCase
import PyProof.ReprLen
import KE.KRevSl
import KE.GoesEnum
import HandS.Strs
import HandS.SetBool
import HandS.SetFor
import HandS.SortOrd
import PyProof.Rows.SetFrom
import HandS.DictComp
import HandS.Walk
import HandS.Lambda
import HandS.Exc
import HandS.ExcInit
import HandS.ExcOwn
import HandS.ExcValue
import HandS.ExcField
import HandS.ExcIs
import KE.KExcIs
import HandS.GenList
import HandS.ForMost
import PySem.Challenge.RW_clockslack_k25_what_must_precede
set_option Elab.async false
set_option linter.all false
set_option maxRecDepth 100000
set_option maxHeartbeats 4000000
/-! Own layer over L2: data, heaps that keep, the pot, further rules. -/
namespace LB
open PySem PySem.Spec PyProof.Rows L2
abbrev St := L2.St
/-- a key as data -/
def kD : Key → PyData
  | .inl i => .int i
  | .inr x => .str x

/-! ### heaps: what is kept but at the addresses S; tuples always stay -/
structure Keep (S : Addr → Prop) (H H' : Hp) : Prop where
  all : ∀ b o, ¬ S b → H b = some o → H' b = some o
  tup : ∀ b xs, H b = some (.tup xs) → H' b = some (.tup xs)
theorem Keep.refl (S : Addr → Prop) (H : Hp) : Keep S H H := ⟨fun _ _ _ h => h, fun _ _ h => h⟩
theorem Keep.trans {S : Addr → Prop} {H H1 H2 : Hp} (a : Keep S H H1) (b : Keep S H1 H2) : Keep S H H2 :=
  ⟨fun c o n h => b.all c o n (a.all c o n h), fun c xs h => b.tup c xs (a.tup c xs h)⟩
theorem Keep.mono {S S' : Addr → Prop} {H H1 : Hp} (a : Keep S H H1) (h : ∀ b, S b → S' b) : Keep S' H H1 :=
  ⟨fun c o n e => a.all c o (fun z => n (h c z)) e, a.tup⟩
/-- a new object -/
theorem Keep.new {S : Addr → Prop} {H : Hp} {p : Addr} {o : HO} (h : H p = none) : Keep S H (upd H p o) :=
  ⟨fun b u _ e => by rw [upd_ne (ne_of_none e h)]; exact e, fun b u e => by rw [upd_ne (ne_of_none e h)]; exact e⟩
/-- a list is changed -/
theorem Keep.put {S : Addr → Prop} {H : Hp} {p : Addr} {xs ys : List V} (hs : S p) (h : H p = some (.lst xs)) : Keep S H (upd H p (.lst ys)) :=
  ⟨fun b u n e => by rw [upd_ne (fun z => n (by rw [z]; exact hs))]; exact e, fun b u e => by rw [upd_ne (fun z => by rw [z, h] at e; cases e)]; exact e⟩
/-- .. one that is new since H0 -/
theorem Keep.put0 {S : Addr → Prop} {H0 H : Hp} {p : Addr} {xs ys : List V} (k : Keep S H0 H) (h0 : H0 p = none) (h : H p = some (.lst xs)) : Keep S H0 (upd H p (.lst ys)) :=
  ⟨fun b u n e => by rw [upd_ne (ne_of_none e h0)]; exact k.all b u n e, fun b u e => by rw [upd_ne (ne_of_none e h0)]; exact k.tup b u e⟩
theorem Keep.free {H0 H : Hp} {S : Addr → Prop} (k : Keep S H0 H) {p : Addr} (n : ¬ S p) (h : H p = none) : H0 p = none := by
  cases q : H0 p with
  | none => rfl
  | some o => rw [k.all p o n q] at h; cases h
abbrev At (p : Addr) : Addr → Prop := fun b => b = p
abbrev All : Addr → Prop := fun _ => True

/-! ### data -/
mutual
/-- at v stands the data d; no list or dict of it is at an address of S -/
inductive DD (S : Addr → Prop) (H : Hp) : V → PyData → Prop
  | non : DD S H .non .none
  | bl (b : Bool) : DD S H (.bl b) (.bool b)
  | int (i : Int) : DD S H (.int i) (.int i)
  | str (x : Str) : DD S H (.str x) (.str x)
  | tup {a : Addr} {xs : List V} {ds : List PyData} : H a = some (.tup xs) → DDs S H xs ds → DD S H (.ref a) (.tuple ds)
  | lst {a : Addr} {xs : List V} {ds : List PyData} : ¬ S a → H a = some (.lst xs) → DDs S H xs ds → DD S H (.ref a) (.list ds)
  | dct {a : Addr} {kvs : List (Key × V)} {vs : List PyData} : ¬ S a → H a = some (.dK kvs) → DDs S H (kvs.map (·.2)) vs → DD S H (.ref a) (.dict ((kvs.map fun p => kD p.1).zip vs))
inductive DDs (S : Addr → Prop) (H : Hp) : List V → List PyData → Prop
  | nil : DDs S H [] []
  | cons {v : V} {vs : List V} {d : PyData} {ds : List PyData} : DD S H v d → DDs S H vs ds → DDs S H (v :: vs) (d :: ds)
end
mutual
theorem DD.keep {S : Addr → Prop} {H H' : Hp} (k : Keep S H H') : ∀ {v : V} {d : PyData}, DD S H v d → DD S H' v d
  | _, _, .non => .non
  | _, _, .bl b => .bl b
  | _, _, .int i => .int i
  | _, _, .str x => .str x
  | _, _, .tup h r => .tup (k.tup _ _ h) (DDs.keep k r)
  | _, _, .lst n h r => .lst n (k.all _ _ n h) (DDs.keep k r)
  | _, _, .dct n h r => .dct n (k.all _ _ n h) (DDs.keep k r)
theorem DDs.keep {S : Addr → Prop} {H H' : Hp} (k : Keep S H H') : ∀ {vs : List V} {ds : List PyData}, DDs S H vs ds → DDs S H' vs ds
  | _, _, .nil => .nil
  | _, _, .cons h r => .cons (DD.keep k h) (DDs.keep k r)
end
mutual
theorem DD.mono {S S' : Addr → Prop} {H : Hp} (h : ∀ b, H b ≠ none → S' b → S b) : ∀ {v : V} {d : PyData}, DD S H v d → DD S' H v d
  | _, _, .non => .non
  | _, _, .bl b => .bl b
  | _, _, .int i => .int i
  | _, _, .str x => .str x
  | _, _, .tup e r => .tup e (DDs.mono h r)
  | _, _, .lst n e r => .lst (fun z => n (h _ (by rw [e]; simp) z)) e (DDs.mono h r)
  | _, _, .dct n e r => .dct (fun z => n (h _ (by rw [e]; simp) z)) e (DDs.mono h r)
theorem DDs.mono {S S' : Addr → Prop} {H : Hp} (h : ∀ b, H b ≠ none → S' b → S b) : ∀ {vs : List V} {ds : List PyData}, DDs S H vs ds → DDs S' H vs ds
  | _, _, .nil => .nil
  | _, _, .cons e r => .cons (DD.mono h e) (DDs.mono h r)
end
theorem DDs.length {S : Addr → Prop} {H : Hp} : ∀ {vs : List V} {ds : List PyData}, DDs S H vs ds → vs.length = ds.length
  | _, _, .nil => rfl
  | _, _, .cons _ r => by rw [List.length_cons, List.length_cons, DDs.length r]
theorem DDs.append {S : Addr → Prop} {H : Hp} : ∀ {vs ws : List V} {ds es : List PyData}, DDs S H vs ds → DDs S H ws es → DDs S H (vs ++ ws) (ds ++ es)
  | _, _, _, _, .nil, s => s
  | _, _, _, _, .cons h r, s => .cons h (DDs.append r s)
theorem DDs.get {S : Addr → Prop} {H : Hp} : ∀ {vs : List V} {ds : List PyData} {i : Nat} {v : V}, DDs S H vs ds → vs[i]? = some v → ∃ d, ds[i]? = some d ∧ DD S H v d
  | _, _, _, _, .nil, e => by simp at e
  | _, _, 0, _, .cons h r, e => by simp at e; subst e; exact ⟨_, rfl, h⟩
  | _, _, i + 1, v, .cons h r, e => by
    obtain ⟨d, h1, h2⟩ := DDs.get (i := i) (v := v) r (by simpa using e)
    exact ⟨d, by simpa using h1, h2⟩
theorem DDs.take {S : Addr → Prop} {H : Hp} : ∀ {vs : List V} {ds : List PyData} (n : Nat), DDs S H vs ds → DDs S H (vs.take n) (ds.take n)
  | _, _, 0, _ => by simp; exact .nil
  | _, _, n + 1, .nil => by simp; exact .nil
  | _, _, n + 1, .cons h r => .cons h (DDs.take n r)
theorem DDs.drop {S : Addr → Prop} {H : Hp} : ∀ {vs : List V} {ds : List PyData} (n : Nat), DDs S H vs ds → DDs S H (vs.drop n) (ds.drop n)
  | _, _, 0, r => r
  | _, _, n + 1, .nil => by simp; exact .nil
  | _, _, n + 1, .cons h r => DDs.drop n r
theorem DDs.rev {S : Addr → Prop} {H : Hp} : ∀ {vs : List V} {ds : List PyData}, DDs S H vs ds → DDs S H vs.reverse ds.reverse
  | _, _, .nil => .nil
  | _, _, .cons h r => by rw [List.reverse_cons, List.reverse_cons]; exact DDs.append (DDs.rev r) (.cons h .nil)
/-- some arrangement of the values is one of the data -/
theorem DDs.perm {S : Addr → Prop} {H : Hp} {vs ws : List V} (p : vs.Perm ws) : ∀ {ds : List PyData}, DDs S H vs ds → ∃ es, ds.Perm es ∧ DDs S H ws es := by
  induction p with
  | nil => intro ds h; exact ⟨ds, .refl _, h⟩
  | cons x _ ih =>
    intro ds h
    cases h with
    | cons h1 h2 =>
      obtain ⟨es, p, q⟩ := ih h2
      exact ⟨_, p.cons _, .cons h1 q⟩
  | swap x y l =>
    intro ds h
    cases h with
    | cons h1 h2 =>
      cases h2 with
      | cons h3 h4 => exact ⟨_, .swap _ _ _, .cons h3 (.cons h1 h4)⟩
  | trans _ _ ih1 ih2 =>
    intro ds h
    obtain ⟨es, p, q⟩ := ih1 h
    obtain ⟨fs, p2, q2⟩ := ih2 q
    exact ⟨fs, p.trans p2, q2⟩

/-! ### DD and what the machine reads -/
section
variable {X : Cx} {pins : List (Addr × Obj)} {σ : St} {S : Addr → Prop} {H : Hp} {s : Shared}
theorem Inv.noSys (I : Inv X pins σ H s) (hS : ∃ o, X.base.get? sysModules = some o) : H sysModules = none := by
  obtain ⟨o, e⟩ := hS
  exact (I.bs _ _ e).2
theorem keysReads {h : Heap} {P : Program} {w : World} : ∀ {es : List DictEntry} {vs : List (Key × Value)}, Pairs (mixKind P w) es vs → ∃ as, ReadsAll h (es.map (·.key)) (vs.map fun p => kD p.1) as ∧ as = []
  | _, _, .nil => ⟨_, .nil, rfl⟩
  | _, _, .cons (e := e) (kv := kv) h1 _ r => by
    obtain ⟨as, q, en⟩ := keysReads (h := h) r
    subst en
    rw [mixKind_is] at h1
    rcases keyIs_shape h1 with ⟨i, t, e1, e2⟩ | ⟨x, t, e1, e2⟩
    · exact ⟨_, by rw [List.map_cons, List.map_cons, e1, e2]; exact .cons (.int i t) q, rfl⟩
    · exact ⟨_, by rw [List.map_cons, List.map_cons, e1, e2]; exact .cons (.str x t) q, rfl⟩
theorem pairs_vals {P : Program} {w : World} : ∀ {es : List DictEntry} {vs : List (Key × Value)}, Pairs (mixKind P w) es vs → es.map (·.val) = vs.map (·.2)
  | _, _, .nil => rfl
  | _, _, .cons _ h2 r => by rw [List.map_cons, List.map_cons, h2, pairs_vals r]
theorem KV.keys {kvs : List (Key × V)} {vs : List (Key × Value)} (r : KV kvs vs) : (vs.map fun p => kD p.1) = kvs.map fun p => kD p.1 := by
  induction r with
  | nil => rfl
  | cons h _ ih => rw [List.map_cons, List.map_cons, ih, h.1]
theorem KV.vals {kvs : List (Key × V)} {vs : List (Key × Value)} (r : KV kvs vs) : Vals (kvs.map (·.2)) (vs.map (·.2)) := by
  induction r with
  | nil => exact .nil
  | cons h _ ih => exact .cons h.2 ih
theorem zip_fst {α β : Type} : ∀ {as : List α} {bs : List β}, as.length = bs.length → (as.zip bs).map (·.1) = as
  | [], [], _ => rfl
  | a :: as, b :: bs, h => by rw [List.zip_cons_cons, List.map_cons, zip_fst (by simpa using h)]
theorem zip_snd {α β : Type} : ∀ {as : List α} {bs : List β}, as.length = bs.length → (as.zip bs).map (·.2) = bs
  | [], [], _ => rfl
  | a :: as, b :: bs, h => by rw [List.zip_cons_cons, List.map_cons, zip_snd (by simpa using h)]
theorem reads_dct (I : L2.Inv X pins σ H s) {a : Addr} {kvs : List (Key × V)} {ds : List PyData} (hs : H a = some (.dK kvs)) (hl : kvs.length = ds.length)
    (q : ∀ us, Vals (kvs.map (·.2)) us → ∃ as, ReadsAll s.heap us ds as ∧ sysModules ∉ as) : ∃ as, Reads s.heap (.ref a) (.dict ((kvs.map fun p => kD p.1).zip ds)) as ∧ sysModules ∉ as := by
  obtain ⟨_, sy, vs, kv, o, es, ep, ho, hx, hd, _, hp, _⟩ := (show ObjOk X.prog X.w H s.heap a (.dK kvs) from I.hok a _ hs)
  have hl2 : (kvs.map fun p => kD p.1).length = ds.length := by rw [List.length_map]; exact hl
  obtain ⟨as, q1, en⟩ := keysReads (h := s.heap) hp
  subst en
  obtain ⟨bs, q2, q3⟩ := q _ (KV.vals kv)
  rw [← pairs_vals hp] at q2
  refine ⟨_, Reads.dict ho hx.1 hd (by rw [zip_fst hl2, ← KV.keys kv]; exact q1) (by rw [zip_snd hl2]; exact q2), ?_⟩
  simp only [List.cons_append, List.nil_append, List.mem_cons, not_or]
  exact ⟨fun z => by rw [z] at sy; simp at sy, q3⟩
mutual
theorem DD.reads (I : L2.Inv X pins σ H s) (hS : H sysModules = none) : ∀ {v : V} {d : PyData}, DD S H v d → ∀ u : Value, RelV v u → ∃ as, Reads s.heap u d as ∧ sysModules ∉ as
  | _, _, .non, _, r => by
    cases r
    exact ⟨_, Reads.none, by simp⟩
  | _, _, .bl b, _, r => by
    cases r
    exact ⟨_, Reads.bool b, by simp⟩
  | _, _, .int i, _, r => by
    obtain ⟨t, rfl⟩ := r
    exact ⟨_, Reads.int i t, by simp⟩
  | _, _, .str x, _, r => by
    obtain ⟨t, rfl⟩ := r
    exact ⟨_, Reads.str x t, by simp⟩
  | _, _, .lst n hs ha, _, r => by
    cases r
    obtain ⟨its, rv, ⟨o, n, ho, hc, _, hd⟩, _⟩ := I.list (.inl (.inl hs))
    obtain ⟨as, hr, hn⟩ := DDs.readsAll I hS ha its rv
    refine ⟨_, Reads.list ho hc hd hr, ?_⟩
    simp only [List.mem_cons, not_or]
    exact ⟨fun e => by (rw [← e, hS] at hs; cases hs), hn⟩
  | _, _, .tup hs ha, _, r => by
    cases r
    obtain ⟨its, rv, ⟨o, ho, hc, n, hd⟩, _⟩ := I.tuple (.inl (.inl hs))
    obtain ⟨as, hr, hn⟩ := DDs.readsAll I hS ha its rv
    exact ⟨_, Reads.tuple ho hc hd hr, hn⟩
  | _, _, .dct n hs ha, _, r => by
    cases r
    have hl := DDs.length ha
    rw [List.length_map] at hl
    exact reads_dct I hs hl fun us ru => DDs.readsAll I hS ha us ru
theorem DDs.readsAll (I : L2.Inv X pins σ H s) (hS : H sysModules = none) : ∀ {vs : List V} {ds : List PyData}, DDs S H vs ds → ∀ us : List Value, Vals vs us → ∃ as, ReadsAll s.heap us ds as ∧ sysModules ∉ as
  | _, _, .nil, _, r => by
    cases r
    exact ⟨_, ReadsAll.nil, by simp⟩
  | _, _, .cons h1 h2, _, r => by
    cases r with
    | cons r1 r2 =>
      obtain ⟨as, q1, n1⟩ := DD.reads I hS h1 _ r1
      obtain ⟨bs, q2, n2⟩ := DDs.readsAll I hS h2 _ r2
      exact ⟨_, ReadsAll.cons q1 q2, by rw [List.mem_append, not_or]; exact ⟨n1, n2⟩⟩
end
end
end LB

namespace LB
open PySem PySem.Spec PyProof.Rows L2

/-! ### defs whose callers repr nothing (no guard lies around): needed for repr -/
/-- a promise that holds wherever no repr is under way -/
structure FnG (P : Program) (w : World) (K : PySem.W.Frag) (mg : Str → Option Value) (base : Heap) (CX : CXT)
    (k : Nat) (f : Addr) (fd : FuncData) (ps : List Str) (sp : Sp) : Prop where
  arity : ∀ vs H Q E, sp vs H Q E → vs.length = ps.length
  goes : ∀ (A : Around) (outer : List Env) (s : Shared) (H : Hp) (args : Args) (us : List Value) (vs : List V)
    (Q : VK) (E : XK), Room k A → A.guards = some [] → Env0 P w K mg base A outer s H →
    BindsTo s fd args (ps.zip us) → Vals vs us → sp vs H Q E →
    codeAny (model P w) A (.call (.ref f) args) (CR CX outer P w H s Q E) s

section
variable {P : Program} {w : World} {K : PySem.W.Frag} {mg : Str → Option Value} {base : Heap} {CX : CXT}
/-- the body of a def: its names laid, the body run -/
theorem fn_g {x qual : Str} {st : Stmt} {f : Addr} {fd : FuncData} {N ps : List Str} {k : Nat} {sp : Sp}
    (F : Fun K x qual st f fd) (S : FnScope N ps (defScope st)) (ar : ∀ vs H Q E, sp vs H Q E → vs.length = ps.length)
    (bd : ∀ (cdv : Value) (A : Around) (outer : List Env) (s : Shared) (H : Hp) (vs : List V) (Q : VK) (E : XK),
      Room k (A.deeper (envOfC qual (defScope st) s.heap.objs.size f cdv)) → A.guards = some [] → sp vs H Q E →
      ∃ t, PSs (cxOf CX P w K mg base N qual (defScope st) f cdv A outer s H E) (defBody st) t ∧
        t { nx := fun _ H' => Q .non H', rt := Q } (start N vs) H) :
    FnG P w K mg base CX (k + 1) f fd ps sp where
  arity := ar
  goes := by
    intro A outer s H args us vs Q E room gd env0 binds vals hs
    obtain ⟨_, _, _, _, _, _, cdv, _, _, efd, look, code⟩ := F.ex
    subst efd
    have KIn : K.In s.heap := env0.mod.kin.keeps (fun a b c => (env0.bs a b c).1)
    have hkinds : ∀ z ∈ ps.zip us, (defScope st).names.lookup z.1 = some .local ∨
        ((defScope st).names.lookup z.1 = some .cell ∧ ((cellsFrom (s.heap.objs.size + 1) (defScope st).names []).lookup z.1).isSome = true) := by
      rintro ⟨n, u⟩ hz
      rcases S.par n (List.of_mem_zip hz).1 with h | h
      · exact Or.inl h
      · exact Or.inr ⟨h, PySem.W.cellsFrom_some _ _ _ (Or.inl h)⟩
    refine codeAny_call_function room.depth (KIn _ _ look) rfl S.co S.gen rfl
      (PySem.W.codeRec_of KIn code) (binds _ _ _ _ (wpAny_newFunctionEnv_cells S.kind hkinds ?_))
    intro env henv s1 IC
    cases henv
    refine ⟨(env0.mod.nolimit.keeps (fun a b c => (env0.bs a b c).1)).keeps IC.toInCall.keep, codeAny_func ?_⟩
    obtain ⟨t, der, rd⟩ := bd cdv A outer s H vs Q E (room.deeper _) gd hs
    have I0 : L2.Inv (cxOf CX P w K mg base N qual (defScope st) f cdv A outer s H E) [] (start N vs) H s1 :=
      inv_start S room.hd env0 (ar _ _ _ _ hs) vals IC
    refine wpAny_mono (der.run [] s1 (start N vs) H _ I0 rd) ?_ (fun _ _ h => h)
    intro fl s2 h
    match fl, h with
    | .ret u, ⟨v, _, H2, J, r, q⟩ => exact ⟨v, H2, J.os, J.bare, J.base, J.hok, r, q⟩
    | .next, ⟨_, H2, J, q⟩ => exact ⟨V.non, H2, J.os, J.bare, J.base, J.hok, rfl, q⟩
    | .brk, ⟨_, _, _, q⟩ => exact False.elim q
    | .cont, ⟨_, _, _, q⟩ => exact False.elim q
end

section
variable {X : Cx} {CX : CXT} {k j : Nat} {f : Addr} {fd : FuncData} {ps ks : List Str} {sp : Sp} {x : Str} {p pos : Pos}
  {e : Expr} {es : List Expr} {t tk : TA} {ds : List Value} {dvs : List V} {E : XK} {kws : List Keyword}
/-- the call itself, its arguments known -/
theorem go_g {pins : List (Addr × Obj)} {σ : LB.St} {H : Hp} {s : Shared} {Q : VK} {args : Args} {us : List Value} {vs : List V}
    (F : FnG X.prog X.w X.K X.mg X.base CX k f fd ps sp) (hr : Room k X.A) (gd : X.A.guards = some [])
    (hx : Passes CX X E) (I : L2.Inv X pins σ H s) (bn : BindsTo s fd args (ps.zip us)) (r : Vals vs us) (h : sp vs H Q E) :
    wpAny (model X.prog X.w) X.A (PySem.call (.ref f) args.pos args.kw) (EP X pins σ Q) X.xe s := by
  refine wpAny_call (codeAny_mono (F.goes X.A X.stack s H args us vs Q E hr gd I.env0 bn r h) ?_)
  intro r' s' z
  match r', z with
  | .error _, z => exact hx _ _ _ _ _ _ I z
  | .ok (.ret _), z => exact I.after z
  | .ok .next, z => exact False.elim z
  | .ok .brk, z => exact False.elim z
  | .ok .cont, z => exact False.elim z
end

/-- a def by its name, its arguments by position -/
structure CalG (P : Program) (w : World) (K : PySem.W.Frag) (mg : Str → Option Value) (base : Heap) (CX : CXT) (k : Nat) (x : Str) (sp : Sp) : Prop where
  is : ∃ (f : Addr) (fd : FuncData) (ps : List Str), FnG P w K mg base CX k f fd ps sp ∧ mg x = some (.ref f) ∧
    PySem.W.keepIn K (.ref f) = true ∧ ∀ us : List Value, us.length = ps.length → bindArgs fd ⟨us, []⟩ = pure (ps.zip us)
/-- .. its arguments partly or all by the names ks; pi: how they come to the parameters -/
structure KalG (P : Program) (w : World) (K : PySem.W.Frag) (mg : Str → Option Value) (base : Heap) (CX : CXT) (k : Nat) (x : Str) (n : Nat) (ks : List Str)
    (pi : {α : Type} → List α → List α → List α) (sp : Sp) : Prop where
  is : ∃ (f : Addr) (fd : FuncData) (ps : List Str), FnG P w K mg base CX k f fd ps sp ∧ mg x = some (.ref f) ∧
    PySem.W.keepIn K (.ref f) = true ∧ (∀ us ws : List Value, us.length = n → ws.length = ks.length → bindArgs fd ⟨us, ks.zip ws⟩ = pure (ps.zip (pi us ws))) ∧
    ∀ (vs : List V) (us : List Value) (zs : List V) (ws : List Value), us.length = n → ws.length = ks.length → Vals vs us → Vals zs ws → Vals (pi vs zs) (pi us ws)
section
variable {X : Cx} {CX : CXT} {k j n : Nat} {sp : Sp} {x : Str} {p pos : Pos}
  {e : Expr} {es : List Expr} {t tk : TA} {E : XK} {kws : List Keyword} {ks : List Str} {pi : {α : Type} → List α → List α → List α}
theorem pe_g (c : CalG X.prog X.w X.K X.mg X.base CX k x sp) (hr : Room j X.A) (hk : k ≤ j) (gd : X.A.guards = some []) (hx : Passes CX X E)
    (gl : Gl X x) (ha : PA X (e :: es) t) (dbg : (x == ("__debug__" : Str)) = false := by decide)
    (st : starEach (e :: es) X.env = (false, eval e X.env) :: starEach es X.env := by rfl)
    (pl : (backTo pos (starEach es X.env)).any (·.1) = false := by rfl) : PE X (.Call (.Name x p) (e :: es) [] pos) (tCall sp [] E t) := by
  obtain ⟨f, fd, ps, F, hm, kp, bn⟩ := c.is
  constructor
  intro pins s σ H Q I h
  refine wpAny_Call_Name_kw (ld_glob I gl hm ?_ dbg)
  refine PySem.W.callWith_K (h₀ := X.base) I.ok.mod.kin kp ?_ st pl
  refine thn (ha.run pos pins s σ H _ I h) ?_
  rintro us s1 ⟨vs, H1, I1, r, q⟩
  rw [List.append_nil] at q
  have hl : us.length = ps.length := by rw [← r.length]; exact F.arity _ _ _ _ q
  exact ⟨I1.kIn, go_g (args := ⟨us, []⟩) F (hr.mono hk) gd hx I1 (BindsTo.of_eq (bn us hl)) r q⟩
theorem pe_g0 (c : CalG X.prog X.w X.K X.mg X.base CX k x sp) (hr : Room j X.A) (hk : k ≤ j) (gd : X.A.guards = some []) (hx : Passes CX X E)
    (gl : Gl X x) (dbg : (x == ("__debug__" : Str)) = false := by decide) : PE X (.Call (.Name x p) [] [] pos) (tCall sp [] E tNil) := by
  obtain ⟨f, fd, ps, F, hm, kp, bn⟩ := c.is
  constructor
  intro pins s σ H Q I h
  refine wpAny_Call_Name_kw (ld_glob I gl hm ?_ dbg)
  have hl : ([] : List Value).length = ps.length := F.arity _ _ _ _ h
  exact PySem.W.callWith_K0 I.kIn kp (go_g (args := ⟨[], []⟩) F (hr.mono hk) gd hx I (BindsTo.of_eq (bn [] hl)) .nil h)
/-- f(k = v, ..), no argument by position -/
def tCallW (sp : Sp) (pi : {α : Type} → List α → List α → List α) (m : Nat) (E : XK) (tk : TA) : TE := fun σ H Q => tk σ H fun zs H1 => zs.length = m ∧ sp (pi [] zs) H1 Q E
theorem pe_gw (c : KalG X.prog X.w X.K X.mg X.base CX k x 0 ks pi sp) (hr : Room j X.A) (hk : k ≤ j) (gd : X.A.guards = some []) (hx : Passes CX X E)
    (gl : Gl X x) (hkw : PK X kws tk) (dbg : (x == ("__debug__" : Str)) = false := by decide)
    (all : (backToKw pos (keywordEach kws X.env)).all (·.1.isSome) = true := by rfl) (hks : (backToKw pos (keywordEach kws X.env)).filterMap (·.1) = ks := by rfl)
    (pl : ((backTo pos (starEach [] X.env)).any (·.1) || (backToKw pos (keywordEach kws X.env)).any (·.1.isNone)) = false := by rfl) :
    PE X (.Call (.Name x p) [] kws pos) (tCallW sp pi ks.length E tk) := by
  obtain ⟨f, fd, ps, F, hm, kp, bn, rl⟩ := c.is
  constructor
  intro pins s σ H Q I h
  refine wpAny_Call_Name_kw (ld_glob I gl hm ?_ dbg)
  refine PySem.W.callWith_KW0 (h₀ := X.base) I.ok.mod.kin kp all ?_ pl
  refine thn (hkw.run pos pins s σ H _ I h) ?_
  rintro ws s1 ⟨zs, H1, I1, r, hz, q⟩
  rw [hks]
  have hw : ws.length = ks.length := by rw [← r.length]; exact hz
  exact ⟨I1.kIn, go_g (args := ⟨[], ks.zip ws⟩) F (hr.mono hk) gd hx I1 (BindsTo.of_eq (bn [] ws rfl hw)) (rl _ _ _ _ rfl hw .nil r) q⟩
/-- f(e, .., k = v, ..) -/
def tCallV (sp : Sp) (pi : {α : Type} → List α → List α → List α) (n m : Nat) (E : XK) (t tk : TA) : TE := fun σ H Q => t σ H fun vs H1 => tk σ H1 fun zs H2 => vs.length = n ∧ zs.length = m ∧ sp (pi vs zs) H2 Q E
theorem pe_gv (c : KalG X.prog X.w X.K X.mg X.base CX k x n ks pi sp) (hr : Room j X.A) (hk : k ≤ j) (gd : X.A.guards = some []) (hx : Passes CX X E)
    (gl : Gl X x) (ha : PA X (e :: es) t) (hkw : PK X kws tk) (dbg : (x == ("__debug__" : Str)) = false := by decide)
    (all : (backToKw pos (keywordEach kws X.env)).all (·.1.isSome) = true := by rfl) (hks : (backToKw pos (keywordEach kws X.env)).filterMap (·.1) = ks := by rfl)
    (st : starEach (e :: es) X.env = (false, eval e X.env) :: starEach es X.env := by rfl)
    (pl : ((backTo pos (starEach (e :: es) X.env)).any (·.1) || (backToKw pos (keywordEach kws X.env)).any (·.1.isNone)) = false := by rfl) :
    PE X (.Call (.Name x p) (e :: es) kws pos) (tCallV sp pi n ks.length E t tk) := by
  obtain ⟨f, fd, ps, F, hm, kp, bn, rl⟩ := c.is
  constructor
  intro pins s σ H Q I h
  refine wpAny_Call_Name_kw (ld_glob I gl hm ?_ dbg)
  refine PySem.W.callWith_KW (h₀ := X.base) I.ok.mod.kin kp all ?_ pl st
  refine thn (ha.run pos pins s σ H _ I h) ?_
  rintro us s1 ⟨vs, H1, I1, r1, q1⟩
  refine thn (hkw.run pos pins s1 σ H1 _ I1 q1) ?_
  rintro ws s2 ⟨zs, H2, I2, r2, hv, hz, q⟩
  rw [hks]
  have hu : us.length = n := by rw [← r1.length]; exact hv
  have hw : ws.length = ks.length := by rw [← r2.length]; exact hz
  exact ⟨I2.kIn, go_g (args := ⟨us, ks.zip ws⟩) F (hr.mono hk) gd hx I2 (BindsTo.of_eq (bn us ws hu hw)) (rl _ _ _ _ hu hw r1 r2) q⟩
end

/-! ### repr -/
theorem showable_dd {S : Addr → Prop} {H : Hp} {d : PyData} (_ : True) : d.showable = true → d.showable = true := id
/-- repr(x), x data -/
def rRepr : List V → Hp → VK → Prop := fun xs H Q => ∃ (x : V) (d : PyData) (S : Addr → Prop), xs = [x] ∧ DD S H x d ∧ d.showable = true ∧ d.depth ≤ 60 ∧ d.shown.length ≤ sizeLine ∧ Q (.str d.shown) H
theorem call_repr {X : Cx} {k : Nat} (gd : X.A.guards = some []) (hr : Room k X.A) (hS : ∃ o, X.base.get? sysModules = some o) : CallR X (.builtin "repr") rRepr := by
  intro pins s σ H xs us Q I r h
  obtain ⟨x, d, S, rfl, hd, sh, dp, sz, q⟩ := h
  obtain ⟨u, eu, rx⟩ : ∃ u, us = [u] ∧ RelV x u := by
    cases r with
    | cons h1 h2 => cases h2; exact ⟨_, rfl, h1⟩
  subst eu
  obtain ⟨as, rd, ns⟩ := DD.reads I (Inv.noSys I hS) hd u rx
  have fin : ∀ (g : Heap) (t tk : Tok), (∀ b o, s.heap.get? b = some o → g.get? b = some o) → EP X pins σ Q (.str d.shown t) { s with heap := g, toks := tk } :=
    fun g t tk hk => ⟨.str d.shown, H, (I.kept hk), ⟨t, rfl⟩, q⟩
  have un := hr.un
  cases hd with
  | non => cases rx; exact PySem.P.repr_of_none (fin s.heap _ _ fun _ _ h => h)
  | bl b => cases rx; exact PySem.P.repr_of_bool (fin s.heap _ _ fun _ _ h => h)
  | int i =>
    obtain ⟨t, rfl⟩ := rx
    exact PySem.P.repr_of_int (by simpa [PyData.showable] using sh) (fin s.heap _ _ fun _ _ h => h)
  | str y =>
    obtain ⟨t, rfl⟩ := rx
    exact PySem.P.repr_of_str (fin s.heap _ _ fun _ _ h => h) sz
  | tup h1 h2 =>
    cases rx
    exact repr_of_reads' rd sh (fun _ => ns) gd (by omega) (fun _ _ h => h) (fun g t tk hk => fin g t tk hk) sz
  | lst n h1 h2 =>
    cases rx
    exact repr_of_reads' rd sh (fun _ => ns) gd (by omega) (fun _ _ h => h) (fun g t tk hk => fin g t tk hk) sz
  | dct n h1 h2 =>
    cases rx
    exact repr_of_reads' rd sh (fun _ => ns) gd (by omega) (fun _ _ h => h) (fun g t tk hk => fin g t tk hk) sz
end LB

namespace LB
open PySem PySem.Spec PyProof.Rows L2
/-! ### readings by short names -/
abbrev rAddI : R2 := rI0 fun i j => .int (i + j)
abbrev rSubI : R2 := rI0 fun i j => .int (i - j)
abbrev rModI : R2 := rI (fun _ j => j ≠ 0) fun i j => .int (i.fmod j)
abbrev rFdvI : R2 := rI CDivN fun i j => .int (i.fdiv j)
def CPowW (i j : Int) : Prop := 0 ≤ j ∧ (Builtin.Int.intBits i : Int) * j ≤ 2 ^ 27
abbrev rPowI : R2 := rI CPowW fun i j => .int (i ^ j.toNat)
abbrev rNegI : V → Hp → VK → Prop := rU fun i => .int (-i)
abbrev rLtI : R2 := rI0 fun i j => .bl (decide (i < j))
abbrev rLeI : R2 := rI0 fun i j => .bl (decide (i ≤ j))
abbrev rGtI : R2 := rI0 fun i j => .bl (decide (j < i))
abbrev rGeI : R2 := rI0 fun i j => .bl (decide (j ≤ i))
abbrev rAbs : List V → Hp → VK → Prop := fun xs H Q => ∃ i, xs = [.int i] ∧ Q (.int (if i < 0 then -i else i)) H
abbrev rInt1 : List V → Hp → VK → Prop := fun xs H Q => (∃ i, xs = [.int i] ∧ Q (.int i) H) ∨ ∃ k, xs = [.bl k] ∧ Q (.int (if k then 1 else 0)) H
abbrev rStrInt : List V → Hp → VK → Prop := fun xs H Q => ∃ i, xs = [.int i] ∧ i.natAbs.log2 < 1920 ∧ Q (.str (toString i)) H
abbrev rMax2 : List V → Hp → VK → Prop := fun xs H Q => ∃ i j, xs = [.int i, .int j] ∧ Q (.int (if j > i then j else i)) H
abbrev rMin2 : List V → Hp → VK → Prop := fun xs H Q => ∃ i j, xs = [.int i, .int j] ∧ Q (.int (if j < i then j else i)) H
abbrev rListOf (K : PySem.W.Frag) : List V → Hp → VK → Prop := fun xs H Q => ∃ p ys, xs = [.ref p] ∧ (SqL K H p ys ∨ SqT K H p ys) ∧ ∀ l, H l = none → Q (.ref l) (upd H l (.lst ys))
abbrev rTupOf (K : PySem.W.Frag) : List V → Hp → VK → Prop := fun xs H Q => ∃ p ys, xs = [.ref p] ∧ ((SqL K H p ys ∧ ∀ l, H l = none → Q (.ref l) (upd H l (.tup ys))) ∨ (SqT K H p ys ∧ Q (.ref p) H))
abbrev rUpper : V → List V → Hp → VK → Prop := fun x xs H Q => ∃ a, x = .str a ∧ xs = [] ∧ a.length ≤ 5592405 ∧ Q (.str (Txt.upper a)) H
abbrev rAddS : R2 := fun x y H Q => ∃ i j, x = .str i ∧ y = .str j ∧ i.length + j.length ≤ sizeLine ∧ Q (.str (i ++ j)) H
def rAddA (K : PySem.W.Frag) : R2 := fun x y H Q => rAddI x y H Q ∨ rAddS x y H Q ∨ rCat x y H Q ∨ rCatA K x y H Q
def rMulA (K : PySem.W.Frag) : R2 := fun x y H Q => rI CMul (fun i j => .int (i * j)) x y H Q ∨ rI CMulW (fun i j => .int (i * j)) x y H Q ∨ rRep x y H Q ∨ rRepT K x y H Q
def rInA (K : PySem.W.Frag) : R2 := fun x y H Q => rIn K false x y H Q ∨ rInD K x y H Q
def rNiA (K : PySem.W.Frag) : R2 := fun x y H Q => rIn K true x y H Q ∨ rNotInD K x y H Q
abbrev rIsN1 : R2 := fun x y H Q => y = .non ∧ Q (.bl (decide (x = .non))) H
abbrev rNotN1 : R2 := fun x y H Q => y = .non ∧ Q (.bl (!decide (x = .non))) H
def rIsA : R2 := fun x y H Q => rIsN1 x y H Q ∨ rIsB x y H Q
def rNotA : R2 := fun x y H Q => rNotN1 x y H Q ∨ rNotB x y H Q
def rSlAny (K : PySem.W.Frag) : V → Option Int → Option Int → Hp → VK → Prop := fun x lo hi H Q => rSlL K x lo hi H Q ∨ rSlA K x lo hi H Q ∨ rSlS x lo hi H Q
def tTr (K : PySem.W.Frag) (ta : TE) : TT := fun σ H Q => ta σ H fun x H' => ∃ k, TruV K x H' k ∧ Q k H'
def iSeq (K : PySem.W.Frag) (tl : TE) : TI := fun σ H R => iList K tl σ H R ∨ iTup K tl σ H R
section
variable {X : Cx}
theorem op_powW : OpR X (binaryOp .Pow) rPowI := opI fun _ _ _ _ _ _ _ hc q => pow_int hc.1 hc.2 q
theorem op_addA : OpR X (binaryOp .Add) (rAddA X.K) := op_add.or (op_add_str.or (op_cat.or op_catA))
theorem op_mulA : OpR X (binaryOp .Mult) (rMulA X.K) := op_mul.or (op_mulW.or (op_rep.or op_repT))
theorem op_inA (u : X.A.units + 65 < cLine) : OpR X (compareOp .In) (rInA X.K) := op_in_seq.or (op_inD u)
theorem op_niA (u : X.A.units + 65 < cLine) : OpR X (compareOp .NotIn) (rNiA X.K) := op_notIn_seq.or (op_notInD u)
theorem op_isA : OpR X (compareOp .Is) rIsA := op_isN.or op_isBl
theorem op_notA : OpR X (compareOp .IsNot) rNotA := op_notN.or op_notBl
theorem sl_any : SlR X (rSlAny X.K) := sl_list.or (sl_tupA.or sl_str)
theorem pi_seq {tg l : Expr} {tl : TE} (h : PE X l tl) : PI X tg l (iSeq X.K tl) := by
  constructor
  intro pins s σ H R I q
  rcases q with q | q
  · exact (pi_list h).run pins s σ H R I q
  · exact (pi_tup h).run pins s σ H R I q
theorem units65 {k : Nat} {A : Around} (r : Room k A) : A.units + 65 < cLine := by
  have := r.un
  omega
end
end LB

namespace LB
open PySem PySem.Spec PyProof.Rows L2
section
open SeqAt
variable {prog : Program} {w : World} {A : Around} {E : Value → Shared → Prop} {s : Shared}
theorem call_dict_eq_str {l : Addr} {b : Str} {u : Tok} {Q : Value → Shared → Prop} (ty : s.TypeIs (.ref l) "dict") (h : Q .notImplemented s) :
    wpAny (model prog w) A (call (.builtin "dict.__eq__") [.ref l, .str b u]) Q E s := by
  refine wpAny_call_entry PySem.F.slot_dict_eq ty PySem.F.entry_dict_eq ?_ (PySem.F.args_dict_eq_2 _ _)
  show wpAny _ _ (Builtin.Dict.dictSlotArgs "__eq__" ⟨[.ref l, .str b u], []⟩ >>= _) _ _ s
  refine wpAny_bind ?_
  unfold Builtin.Dict.dictSlotArgs
  refine wpAny_bind (wpAny_notOrdered_dict ty ?_)
  show wpAny _ _ (pure (Value.ref l, Value.str b u)) _ _ s
  refine wpAny_pure ?_
  refine wpAny_bind (wpAny_isInstance (T := "str") (typeIs_str s b u) PySem.F.sub_str_dict ?_)
  simp only [Bool.not_false, if_true]
  exact wpAny_bind (wpAny_rule (wpAny_bind (wpAny_pure (wpAny_pure ⟨_, rfl, h⟩))))
open AutoSeq1 (wpAny_loadPart') in
theorem str_eq_dict (b : Str) (u : Tok) (l : Addr) (o : Obj) (es : Array DictEntry) (ep : Nat) (hd : o.data = .dict es ep) :
    Meets (Builtin.«str.__eq__» ⟨[.str b u, .ref l], []⟩) (fun _ R s => s.heap.get? l = some o ∧ R (.ok (.ret .notImplemented)) s) :=
  .of_wp fun prog w A R s h => by
    obtain ⟨cls, dd, data, sl⟩ := o
    simp only at hd
    subst hd
    obtain ⟨hp, g, d, tk, os⟩ := s
    obtain ⟨hl, h⟩ := h
    wp_walk using wpAny_loadPart' hl, wpAny_load hl
    exact ⟨_, rfl, h⟩
theorem rc_dict_str {l : Addr} {o : Obj} {es : Array DictEntry} {ep : Nat} {b : Str} {u : Tok} {Q : Value → Shared → Prop} (ho : s.heap.get? l = some o) (hc : o.cls = .type "dict") (hd : o.data = .dict es ep)
    (hu : A.units < cLine) (h : Q (.bool false) s) : wpAny (model prog w) A (compareOp .Eq (.ref l) (.str b u)) Q E s := by
  refine rc_eq_decline_or (k := false) ⟨o, ho, hc⟩ (typeIs_str s b u) (by decide) PySem.F.sub_str_dict PySem.F.slot_dict_eq PySem.F.slot_str_eq_refl
    (fun _ hq => call_dict_eq_str ⟨o, ho, hc⟩ hq)
    (fun _ hq => call_meets PySem.F.slot_str_eq_refl (typeIs_str s b u) PySem.F.entry_str_eq (PySem.F.args_str_eq_2 _ _) (str_eq_dict b u l o es ep hd) ⟨ho, hq⟩)
    (fun _ hq => wpAny_of_eq (rfl : isSame (.ref l) (.str b u) = pure false) hq) (.inr hu) h
end
/-! ### data compared with a text -/
def eqStr : PyData → Str → Bool
  | .str t, x => decide (t = x)
  | _, _ => false
def rEqX : R2 := fun x y H Q => ∃ (d : PyData) (S : Addr → Prop) (z : Str), DD S H x d ∧ y = .str z ∧ Q (.bl (eqStr d z)) H
theorem op_eqX {X : Cx} (hu : X.A.units < cLine) : OpR X (compareOp .Eq) rEqX := by
  intro pins s σ H x y v u Q I rx ry h
  obtain ⟨d, S, z, hd, rfl, q⟩ := h
  have sc : ∀ {x : V} {d : PyData}, RelV x v → scal x (.str z) = true → decide (x = .str z) = eqStr d z → Q (.bl (eqStr d z)) H → wpAny (model X.prog X.w) X.A (compareOp .Eq v u) (EP X pins σ Q) X.xe s :=
    fun {x d} rx e1 e2 q => op_eq pins s σ H x (.str z) v u Q I rx ry ⟨e1, by rw [e2]; exact q⟩
  cases hd with
  | non => exact sc (d := .none) rx rfl (by simp [eqStr]) q
  | bl b => exact sc (d := .bool b) rx rfl (by simp [eqStr]) q
  | int i => exact sc (d := .int i) rx rfl (by simp [eqStr]) q
  | str t => exact sc (d := .str t) rx rfl (by simp [eqStr]) q
  | tup h1 h2 =>
    cases rx
    obtain ⟨t, rfl⟩ := ry
    obtain ⟨its, rv, ht, _⟩ := I.tuple (.inl (.inl h1))
    exact SeqAt.RcAt.tuple_str z t ht hu _ _ _ _ ⟨.bl false, H, I, rfl, q⟩
  | lst n h1 h2 =>
    cases rx
    obtain ⟨t, rfl⟩ := ry
    obtain ⟨its, rv, hl, _⟩ := I.list (.inl (.inl h1))
    exact SeqAt.RcAt.list_str z t hl.isList hu _ _ _ _ ⟨.bl false, H, I, rfl, q⟩
  | dct n h1 h2 =>
    cases rx
    obtain ⟨t, rfl⟩ := ry
    obtain ⟨_, sy, vs, kv, o, es, ep, ho, hx, hd, _, hp, _⟩ := (show ObjOk X.prog X.w H s.heap _ (.dK _) from I.hok _ _ h1)
    exact rc_dict_str ho hx.1 hd hu ⟨.bl false, H, I, rfl, q⟩
/-! ### t == () -/
def rEqE : R2 := fun x y H Q => ∃ (a b : Addr) (xs : List V), x = .ref a ∧ y = .ref b ∧ H a = some (.tup xs) ∧ H b = some (.tup []) ∧ Q (.bl xs.isEmpty) H
theorem op_eqE {X : Cx} (hu : X.A.units < cLine) : OpR X (compareOp .Eq) rEqE := by
  intro pins s σ H x y v u Q I rx ry h
  obtain ⟨a, b, xs, rfl, rfl, h1, h3, q⟩ := h
  cases rx
  cases ry
  obtain ⟨i1, r1, t1, _⟩ := I.tuple (.inl (.inl h1))
  obtain ⟨i2, r2, t2, _⟩ := I.tuple (.inl (.inl h3))
  cases r2
  have hl : xs.isEmpty = i1.isEmpty := by
    have := r1.length
    cases xs <;> cases i1 <;> simp at this ⊢
  rw [hl] at q
  refine SeqAt.RcAt.tuples (e := fun _ => true) t1 t2 hu (fun j h1 h2 => by simp at h2) _ _ _ _ ⟨.bl i1.isEmpty, H, I, ?_, q⟩
  show Value.bool _ = Value.bool _
  cases i1 <;> simp
/-! ### all of them -/
def rEqA (K : PySem.W.Frag) : R2 := fun x y H Q => rEq x y H Q ∨ rEqX x y H Q ∨ rEqE x y H Q ∨ rEqD K x y H Q
theorem op_eqA {X : Cx} (u : X.A.units + 65 < cLine) : OpR X (compareOp .Eq) (rEqA X.K) := op_eq.or ((op_eqX (by omega)).or ((op_eqE (by omega)).or (op_eqD (by omega))))
def rNeA (K : PySem.W.Frag) : R2 := fun x y H Q => rNe x y H Q ∨ rNeD K x y H Q
theorem op_neA {X : Cx} (u : X.A.units + 65 < cLine) : OpR X (compareOp .NotEq) (rNeA X.K) := op_ne.or (op_neD (by omega))
end LB

namespace LB
open PySem PySem.Spec PyProof.Rows L2
/-- H1 is H with a new object o at p -/
structure New (H H1 : Hp) (p : Addr) (o : HO) : Prop where
  no : H p = none
  at_ : H1 p = some o
  off : ∀ b, b ≠ p → H1 b = H b
theorem New.mk' {H : Hp} {p : Addr} {o : HO} (h : H p = none) : New H (upd H p o) p o := ⟨h, upd_same, fun _ hb => upd_ne hb⟩
theorem New.keep {S : Addr → Prop} {H H1 : Hp} {p : Addr} {o : HO} (n : New H H1 p o) : Keep S H H1 :=
  ⟨fun b _ _ e => by rw [n.off b (ne_of_none e n.no)]; exact e, fun b _ e => by rw [n.off b (ne_of_none e n.no)]; exact e⟩
theorem New.get {H H1 : Hp} {p b : Addr} {o u : HO} (n : New H H1 p o) (e : H b = some u) : H1 b = some u := by rw [n.off b (ne_of_none e n.no)]; exact e
theorem New.ne {H H1 : Hp} {p b : Addr} {o u : HO} (n : New H H1 p o) (e : H b = some u) : b ≠ p := ne_of_none e n.no
/-- H1 is H with the list at p changed -/
theorem upd_get {H : Hp} {p b : Addr} {o u : HO} (n : b ≠ p) (e : H b = some u) : upd H p o b = some u := by rw [upd_ne n]; exact e
def kTupl (Q : VK) : List V → Hp → Prop := fun xs H1 => xs.length ≤ sizeLine ∧ ∀ p, H1 p = none → Q (.ref p) (upd H1 p (.tup xs))
def kLst (Q : VK) : List V → Hp → Prop := fun xs H1 => xs.length ≤ sizeLine ∧ ∀ p, H1 p = none → Q (.ref p) (upd H1 p (.lst xs))
/-! ### readings, step by step -/
section
variable {K : PySem.W.Frag} {t u : TS} {D : Ends} {σ : LB.St} {H : Hp} {Q : VK} {te ta tb : TE} {g : TG} {tr : TA} {r : R2} {Qb : Bool → Hp → Prop} {c : TT} {QA : List V → Hp → Prop}
theorem w_seq (h : t { D with nx := u D } σ H) : tSeq t u D σ H := h
theorem w_asg (h : te σ H fun x H1 => g x σ H1 D.nx) : tAsg te g D σ H := h
theorem w_drop (h : te σ H fun _ H1 => D.nx σ H1) : tDrop te D σ H := h
theorem w_ret (h : te σ H D.rt) : tRet te D σ H := h
theorem w_next (h : D.nx σ H) : tNext D σ H := h
theorem w_ifs (h : c σ H fun b H1 => if b = true then t D σ H1 else u D σ H1) : tIfS c t u D σ H := h
theorem w_name {i : Nat} {v : V} {Qn : LB.St → Hp → Prop} (h : Qn (σ.set i (some v)) H) : gName i v σ H Qn := h
theorem w_sub {to ti : TE} {v : V} {ts : TSet} {Qn : LB.St → Hp → Prop} (h : to σ H fun o H1 => ti σ H1 fun i H2 => ts o i v H2 fun H3 => Qn σ H3) : gSub to ti ts v σ H Qn := h
theorem w_par {i j : Nat} (h : tr σ H fun vs H1 => ∃ v w, vs = [v, w] ∧ D.nx ((σ.set i (some v)).set j (some w)) H1) : tPar i j tr D σ H := h
theorem w_var {i : Nat} {v : V} (e : σ[i]? = some (some v)) (h : Q v H) : tVar i σ H Q := ⟨v, e, h⟩
theorem w_c {v : V} (h : Q v H) : tC v σ H Q := h
theorem w_op (h : ta σ H fun x H1 => tb σ H1 fun y H2 => r x y H2 Q) : tOp r ta tb σ H Q := h
theorem w_un {f : V → Hp → VK → Prop} (h : ta σ H fun x H1 => f x H1 Q) : tUn f ta σ H Q := h
theorem w_test (h : te σ H fun x H' => ∃ k, x = .bl k ∧ Qb k H') : tTest te σ H Qb := h
theorem w_tb (h : te σ H fun x H' => ∃ k, x = .bl k ∧ Qb k H') : tB te σ H Qb := h
theorem w_nil (h : QA [] H) : tNil σ H QA := h
theorem w_cons (h : ta σ H fun x H1 => tr σ H1 fun xs H2 => QA (x :: xs) H2) : tCons ta tr σ H QA := h
theorem w_cb {f : List V → Hp → VK → Prop} (h : tr σ H fun vs H1 => f vs H1 Q) : tCB f tr σ H Q := h
theorem w_call {sp : Sp} {E : XK} (h : tr σ H fun vs H1 => sp vs H1 Q E) : tCall sp [] E tr σ H Q := by
  show tr σ H fun vs H1 => sp (vs ++ []) H1 Q E
  simp only [List.append_nil]
  exact h
theorem w_not {tt : TT} (h : tt σ H fun c H1 => Qb (!c) H1) : tNot tt σ H Qb := h
theorem w_and {tt uu : TT} (h : tt σ H fun c H1 => if c = true then uu σ H1 Qb else Qb false H1) : tAnd tt uu σ H Qb := h
theorem w_or {tt uu : TT} (h : tt σ H fun c H1 => if c = true then Qb true H1 else uu σ H1 Qb) : tOr tt uu σ H Qb := h
theorem w_andV (h : ta σ H fun x H1 => ∃ c, x = .bl c ∧ if c = true then tb σ H1 Q else Q (.bl false) H1) : tAndV ta tb σ H Q := h
theorem w_orV (h : ta σ H fun x H1 => ∃ c, x = .bl c ∧ if c = true then Q (.bl true) H1 else tb σ H1 Q) : tOrV ta tb σ H Q := h
theorem w_notV (h : ta σ H fun x H1 => ∃ c, x = .bl c ∧ Q (.bl (!c)) H1) : tNotV ta σ H Q := h
theorem w_ife {tt : TT} (h : tt σ H fun c H1 => if c = true then ta σ H1 Q else tb σ H1 Q) : tIf tt ta tb σ H Q := h
theorem w_chain {r' : R2} {tc : TE} (h : ta σ H fun x H1 => tb σ H1 fun y H2 => r x y H2 fun z H3 => ∃ k, z = .bl k ∧ (if k = true then tc σ H3 fun w' H4 => r' y w' H4 Q else Q (.bl false) H3)) : tChain r r' ta tb tc σ H Q := h
theorem w_bm {T : String} {f : V → List V → Hp → VK → Prop} (h : ta σ H fun x H1 => tyV K T x H1 ∧ tr σ H1 fun xs H2 => f x xs H2 Q) : tBM K T f ta tr σ H Q := h
theorem w_sl {f : V → Option Int → Option Int → Hp → VK → Prop} {tl th : TO} (h : te σ H fun x H1 => tl σ H1 fun l H2 => th σ H2 fun u H3 => f x l u H3 Q) : tSl f te tl th σ H Q := h
theorem w_part {Qo : Option Int → Hp → Prop} (h : te σ H fun x H1 => ∃ i, x = .int i ∧ Qo (some i) H1) : tPart te σ H Qo := h
theorem w_nopart {Qo : Option Int → Hp → Prop} (h : Qo none H) : tNoPart σ H Qo := h
theorem w_ex {p : V} {k : Bool} {R : Bool → Prop} (h : R k) : ∃ c, V.bl k = .bl c ∧ R c := ⟨k, rfl, h⟩
theorem w_exb {k : Bool} {R : Bool → Prop} (h : R k) : ∃ c, V.bl k = .bl c ∧ R c := ⟨k, rfl, h⟩
theorem w_exi {k : Int} {R : Int → Prop} (h : R k) : ∃ c, V.int k = .int c ∧ R c := ⟨k, rfl, h⟩
theorem w_ex2 {v w : V} {R : V → V → Prop} (h : R v w) : ∃ a b, [v, w] = [a, b] ∧ R a b := ⟨v, w, rfl, h⟩
theorem w_tup (h : tr σ H (kTupl Q)) : tTup tr σ H Q := h
theorem w_lst (h : tr σ H (kLst Q)) : tLst tr σ H Q := h
theorem k_tup {xs : List V} (hn : xs.length ≤ sizeLine) (h : ∀ p H1, New H H1 p (.tup xs) → Q (.ref p) H1) : kTupl Q xs H := ⟨hn, fun p hp => h p _ (.mk' hp)⟩
theorem k_lst {xs : List V} (hn : xs.length ≤ sizeLine) (h : ∀ p H1, New H H1 p (.lst xs) → Q (.ref p) H1) : kLst Q xs H := ⟨hn, fun p hp => h p _ (.mk' hp)⟩
theorem w_iteT {A B : Prop} {c : Bool} (e : c = true) (h : A) : if c = true then A else B := by rw [if_pos e]; exact h
theorem w_iteF {A B : Prop} {c : Bool} (e : c = false) (h : B) : if c = true then A else B := by rw [e]; exact h
theorem w_ite {A B : Prop} {c : Prop} [Decidable c] (h1 : c → A) (h2 : ¬ c → B) : if decide c = true then A else B := by
  by_cases h : c
  · rw [if_pos (decide_eq_true h)]; exact h1 h
  · rw [decide_eq_false h]; exact h2 h
theorem w_iteb {A B : Prop} {c : Bool} (h1 : c = true → A) (h2 : c = false → B) : if c = true then A else B := by
  cases c with
  | true => exact h1 rfl
  | false => exact h2 rfl
/-! operators -/
variable {i j : Int}
theorem o_add (h : Q (.int (i + j)) H) : rAddA K (.int i) (.int j) H Q := .inl ⟨i, j, rfl, rfl, h⟩
theorem o_addI (h : Q (.int (i + j)) H) : rAddI (.int i) (.int j) H Q := ⟨i, j, rfl, rfl, h⟩
theorem o_adds {x y : Str} (e : x.length + y.length ≤ sizeLine) (h : Q (.str (x ++ y)) H) : rAddA K (.str x) (.str y) H Q := .inr (.inl ⟨x, y, rfl, rfl, e, h⟩)
theorem o_addl {a b : Addr} {xs ys : List V} (e1 : H a = some (.lst xs)) (e2 : H b = some (.lst ys)) (e : xs.length + ys.length ≤ sizeLine) (h : ∀ p H1, New H H1 p (.lst (xs ++ ys)) → Q (.ref p) H1) : rAddA K (.ref a) (.ref b) H Q :=
  .inr (.inr (.inl ⟨a, b, xs, ys, rfl, rfl, e1, e2, e, fun p hp => h p _ (.mk' hp)⟩))
theorem o_sub (h : Q (.int (i - j)) H) : rSubI (.int i) (.int j) H Q := ⟨i, j, rfl, rfl, h⟩
theorem o_mul (e : -(2 ^ 64) < i ∧ i < 2 ^ 64) (h : Q (.int (i * j)) H) : rMulA K (.int i) (.int j) H Q := .inl ⟨i, j, rfl, rfl, .inl e, h⟩
theorem o_mulR (e : -(2 ^ 64) < j ∧ j < 2 ^ 64) (h : Q (.int (i * j)) H) : rMulA K (.int i) (.int j) H Q := .inl ⟨i, j, rfl, rfl, .inr e, h⟩
theorem o_mod (e : j ≠ 0) (h : Q (.int (i.fmod j)) H) : rModI (.int i) (.int j) H Q := ⟨i, j, rfl, rfl, e, h⟩
theorem o_fdv (e : j ≠ 0) (e2 : j.natAbs < 1073741824) (h : Q (.int (i.fdiv j)) H) : rFdvI (.int i) (.int j) H Q := ⟨i, j, rfl, rfl, ⟨e, e2⟩, h⟩
theorem o_pow (e : CPowW i j) (h : Q (.int (i ^ j.toNat)) H) : rPowI (.int i) (.int j) H Q := ⟨i, j, rfl, rfl, e, h⟩
theorem o_neg (h : Q (.int (-i)) H) : rNegI (.int i) H Q := ⟨i, rfl, h⟩
theorem o_lt (h : Q (.bl (decide (i < j))) H) : rLtI (.int i) (.int j) H Q := ⟨i, j, rfl, rfl, h⟩
theorem o_le (h : Q (.bl (decide (i ≤ j))) H) : rLeI (.int i) (.int j) H Q := ⟨i, j, rfl, rfl, h⟩
theorem o_gt (h : Q (.bl (decide (j < i))) H) : rGtI (.int i) (.int j) H Q := ⟨i, j, rfl, rfl, h⟩
theorem o_ge (h : Q (.bl (decide (j ≤ i))) H) : rGeI (.int i) (.int j) H Q := ⟨i, j, rfl, rfl, h⟩
theorem o_eqs {x y : V} (e : scal x y = true) (h : Q (.bl (decide (x = y))) H) : rEqA K x y H Q := .inl ⟨e, h⟩
theorem o_nes {x y : V} (e : scal x y = true) (h : Q (.bl (!decide (x = y))) H) : rNeA K x y H Q := .inl ⟨e, h⟩
theorem o_ixl {a : Addr} {xs : List V} {v : V} {n : Nat} (e1 : H a = some (.lst xs)) (e2 : xs[n]? = some v) (h : Q v H) : rIx K (.ref a) (.int n) H Q :=
  .inl ⟨a, xs, n, v, rfl, rfl, .inl (.inl e1), atI_nat e2, h⟩
theorem o_ixt {a : Addr} {xs : List V} {v : V} {n : Nat} (e1 : H a = some (.tup xs)) (e2 : xs[n]? = some v) (h : Q v H) : rIx K (.ref a) (.int n) H Q :=
  .inr (.inl ⟨a, xs, n, v, rfl, rfl, .inl (.inl e1), atI_nat e2, h⟩)
theorem o_setl {a : Addr} {xs : List V} {v : V} {n : Nat} {Qh : Hp → Prop} (e1 : H a = some (.lst xs)) (e2 : n < xs.length) (h : Qh (upd H a (.lst (xs.set n v)))) : rSetL (.ref a) (.int n) v H Qh :=
  ⟨a, xs, n, n, rfl, rfl, e1, by unfold ixN; rw [if_pos (Int.natCast_nonneg n), if_pos (by omega)]; simp, h⟩
theorem o_ixL {a : Addr} {xs : List V} {v : V} {z : Int} (e1 : H a = some (.lst xs)) (e0 : 0 ≤ z) (e2 : xs[z.toNat]? = some v) (h : Q v H) : rIx K (.ref a) (.int z) H Q := by
  obtain ⟨n, rfl⟩ := Int.eq_ofNat_of_zero_le e0
  exact o_ixl e1 e2 h
theorem o_ixT {a : Addr} {xs : List V} {v : V} {z : Int} (e1 : H a = some (.tup xs)) (e0 : 0 ≤ z) (e2 : xs[z.toNat]? = some v) (h : Q v H) : rIx K (.ref a) (.int z) H Q := by
  obtain ⟨n, rfl⟩ := Int.eq_ofNat_of_zero_le e0
  exact o_ixt e1 e2 h
theorem o_setL {a : Addr} {xs : List V} {v : V} {z : Int} {Qh : Hp → Prop} (e1 : H a = some (.lst xs)) (e0 : 0 ≤ z) (e2 : z.toNat < xs.length) (h : Qh (upd H a (.lst (xs.set z.toNat v)))) : rSetL (.ref a) (.int z) v H Qh := by
  obtain ⟨n, rfl⟩ := Int.eq_ofNat_of_zero_le e0
  exact o_setl e1 e2 h
theorem o_len {x : V} {n : Nat} (e : LenV K x H n) (h : Q (.int n) H) : rLen K [x] H Q := ⟨x, n, rfl, e, h⟩
theorem lenl {a : Addr} {xs : List V} (e : H a = some (.lst xs)) : LenV K (.ref a) H xs.length := .inl ⟨xs, .inl (.inl e), rfl⟩
theorem lent {a : Addr} {xs : List V} (e : H a = some (.tup xs)) : LenV K (.ref a) H xs.length := .inr ⟨xs, .inl (.inl e), rfl⟩
theorem o_abs (h : Q (.int (if i < 0 then -i else i)) H) : rAbs [.int i] H Q := ⟨i, rfl, h⟩
theorem o_int1b {b : Bool} (h : Q (.int (if b then 1 else 0)) H) : rInt1 [.bl b] H Q := .inr ⟨b, rfl, h⟩
end
/-! ### the pot -/
/-- the pot at p, good for n draws more -/
def Pot (H : Hp) (p : Addr) (n : Nat) : Prop := ∃ a b c : Int, H p = some (.lst [.int a, .int b, .int c]) ∧ 0 ≤ a ∧ (0 ≤ b ∧ b < 2305843009213693921) ∧ 0 ≤ c ∧ c + n ≤ 8388608
def spDraw : Sp := fun vs H Q _ => ∃ (p : Addr) (m : Int) (n : Nat), vs = [.ref p, .int m] ∧ Pot H p (n + 1) ∧ 1 ≤ m ∧ m < 1073741824 ∧
  ∀ (H' : Hp) (k : Int), Keep (At p) H H' → Pot H' p n → 0 ≤ k → k < m → Q (.int k) H'
end LB

namespace LB
open PySem PySem.Spec PyProof.Rows L2
/-! ### more steps -/
/-- H1 is H with the object at p changed into o -/
structure Put (H H1 : Hp) (p : Addr) (o : HO) : Prop where
  at_ : H1 p = some o
  off : ∀ b, b ≠ p → H1 b = H b
theorem Put.mk' {H : Hp} {p : Addr} {o : HO} : Put H (upd H p o) p o := ⟨upd_same, fun _ hb => upd_ne hb⟩
theorem Put.get {H H1 : Hp} {p b : Addr} {o u : HO} (n : Put H H1 p o) (h : b ≠ p) (e : H b = some u) : H1 b = some u := by rw [n.off b h]; exact e
theorem Put.keep {S : Addr → Prop} {H H1 : Hp} {p : Addr} {o : HO} {xs : List V} (n : Put H H1 p o) (hs : S p) (h : H p = some (.lst xs)) : Keep S H H1 :=
  ⟨fun b _ nb e => n.get (fun z => nb (by rw [z]; exact hs)) e, fun b _ e => n.get (fun z => by rw [z, h] at e; cases e) e⟩
theorem Put.keep0 {S : Addr → Prop} {H0 H H1 : Hp} {p : Addr} {o : HO} {xs : List V} (n : Put H H1 p o) (k : Keep S H0 H) (h0 : H0 p = none) (h : H p = some (.lst xs)) : Keep S H0 H1 :=
  ⟨fun b _ nb e => n.get (ne_of_none e h0) (k.all b _ nb e), fun b _ e => n.get (ne_of_none e h0) (k.tup b _ e)⟩
def kindB : PyData → Nat
  | .none => 0 | .bool _ => 1 | .int _ => 2 | .str _ => 3 | .list _ => 4 | .tuple _ => 5 | .dict _ => 6
def tyN : PyData → String
  | .none => "NoneType" | .bool _ => "bool" | .int _ => "int" | .str _ => "str" | .list _ => "list" | .tuple _ => "tuple" | .dict _ => "dict"
theorem DD.ty {S : Addr → Prop} {K : PySem.W.Frag} {H : Hp} {x : V} {d : PyData} (h : DD S H x d) : TyX K H x (.type (tyN d)) := by
  cases h with
  | non => exact .base .non
  | bl b => exact .base (.bl b)
  | int i => exact .base (.int i)
  | str x => exact .base (.str x)
  | tup e _ => exact .base (.tup e)
  | lst _ e _ => exact .base (.lst e)
  | dct _ e _ => exact .base (.dK e)
/-- isinstance(x, T) for the T that the laws ask -/
def isTs (t T : String) : Bool := t == T || (t == "bool" && T == "int")
def isT (T : String) (d : PyData) : Bool := isTs (tyN d) T
theorem kit_tab : ∀ t ∈ ["NoneType", "bool", "int", "str", "list", "tuple", "dict"], ∀ T ∈ ["tuple", "str", "int", "bool", "list"], kitB t T = some (isTs t T) := by decide +kernel
theorem tyN_mem (d : PyData) : tyN d ∈ ["NoneType", "bool", "int", "str", "list", "tuple", "dict"] := by cases d <;> simp [tyN]
theorem kit_isT {T : String} (d : PyData) (hT : T = "tuple" ∨ T = "str" ∨ T = "int" ∨ T = "bool" ∨ T = "list") : kitB (tyN d) T = some (isT T d) :=
  kit_tab _ (tyN_mem d) T (by rcases hT with rfl | rfl | rfl | rfl | rfl <;> simp)
def kLR (Q : VK) : Int → Int → Hp → Prop := fun a b H1 => RgOk a b ∧ ∀ q, H1 q = none → Q (.ref q) (upd H1 q (.lst (rgV a b)))
section
variable {K : PySem.W.Frag} {D : Ends} {σ : LB.St} {H : Hp} {Q : VK} {te ta tb : TE} {tr : TA} {S : Addr → Prop} {i j : Int}
theorem w_par3 {a b c : Nat} (h : tr σ H fun vs H1 => ∃ u v w, vs = [u, v, w] ∧ D.nx (((σ.set a (some u)).set b (some v)).set c (some w)) H1) : tPar3 a b c tr D σ H := h
theorem w_ex3 {u v w : V} {R : V → V → V → Prop} (h : R u v w) : ∃ a b c, [u, v, w] = [a, b, c] ∧ R a b c := ⟨u, v, w, rfl, h⟩
theorem w_lstrg {tr : LB.St → Hp → (Int → Int → Hp → Prop) → Prop} (h : tr σ H (kLR Q)) : tLstRg tr σ H Q := h
theorem k_lr {a b : Int} (e : RgOk a b) (h : ∀ q H1, New H H1 q (.lst (rgV a b)) → Q (.ref q) H1) : kLR Q a b H := ⟨e, fun q hq => h q _ (.mk' hq)⟩
theorem w_rg2 {R : Int → Int → Hp → Prop} (h : ta σ H fun x H1 => tb σ H1 fun y H2 => ∃ i j, x = .int i ∧ y = .int j ∧ R i j H2) : tRg2 ta tb σ H R := h
theorem w_rg1 {R : Int → Int → Hp → Prop} (h : ta σ H fun x H1 => ∃ n, x = .int n ∧ R 0 n H1) : tRg1 ta σ H R := h
theorem w_exij {R : Int → Int → Prop} (h : R i j) : ∃ a b, V.int i = .int a ∧ V.int j = .int b ∧ R a b := ⟨i, j, rfl, rfl, h⟩
theorem w_tyl {a : Addr} {xs : List V} {P : Prop} (h : H a = some (.lst xs)) (q : P) : tyV K "list" (.ref a) H ∧ P := ⟨.inl ⟨rfl, _, .inl (.inl h)⟩, q⟩
theorem o_isi {x : V} {d : PyData} {T : String} (h : DD S H x d) (hT : T = "tuple" ∨ T = "str" ∨ T = "int" ∨ T = "bool" ∨ T = "list") (q : Q (.bl (isT T d)) H) : rIsi K [x, .ty T] H Q :=
  ⟨x, .ty T, _, _, _, rfl, .ty T, DD.ty h, kit_ty (kit_isT d hT), q⟩
theorem o_isiX {x : V} {d : PyData} {T : String} (h : DD S H x d) (q : Q (.bl (isT T d)) H) (hT : T = "tuple" ∨ T = "str" ∨ T = "int" ∨ T = "bool" ∨ T = "list" := by decide) : rIsi K [x, .ty T] H Q := o_isi h hT q
theorem o_max2 (h : Q (.int (if j > i then j else i)) H) : rMax2 [.int i, .int j] H Q := ⟨i, j, rfl, h⟩
theorem o_min2 (h : Q (.int (if j < i then j else i)) H) : rMin2 [.int i, .int j] H Q := ⟨i, j, rfl, h⟩
theorem o_lenl {a : Addr} {xs : List V} (e : H a = some (.lst xs)) (h : Q (.int xs.length) H) : rLen K [.ref a] H Q := o_len (lenl e) h
theorem o_lent {a : Addr} {xs : List V} (e : H a = some (.tup xs)) (h : Q (.int xs.length) H) : rLen K [.ref a] H Q := o_len (lent e) h
theorem o_lens {a : Addr} {xs : List V} (e : SqL K H a xs) (h : Q (.int xs.length) H) : rLen K [.ref a] H Q := o_len (.inl ⟨xs, e, rfl⟩) h
theorem o_ixS {a : Addr} {xs : List V} {v : V} {z : Int} (e1 : SqL K H a xs) (e0 : 0 ≤ z) (e2 : xs[z.toNat]? = some v) (h : Q v H) : rIx K (.ref a) (.int z) H Q := by
  obtain ⟨n, rfl⟩ := Int.eq_ofNat_of_zero_le e0
  exact .inl ⟨a, xs, n, v, rfl, rfl, e1, atI_nat e2, h⟩
theorem o_app {a : Addr} {xs : List V} {y : V} (e : H a = some (.lst xs)) (z : xs.length < sizeLine) (h : ∀ H1, Put H H1 a (.lst (xs ++ [y])) → Q .non H1) : rAppend (.ref a) [y] H Q := ⟨a, xs, y, rfl, rfl, e, z, h _ .mk'⟩
theorem o_addL {a b : Addr} {xs ys : List V} (e1 : H a = some (.lst xs)) (e2 : H b = some (.lst ys)) (e : xs.length + ys.length ≤ sizeLine) (h : ∀ p H1, New H H1 p (.lst (xs ++ ys)) → Q (.ref p) H1) : rAddA K (.ref a) (.ref b) H Q := o_addl e1 e2 e h
theorem o_listof {a : Addr} {xs : List V} (e : SqL K H a xs ∨ SqT K H a xs) (h : ∀ p H1, New H H1 p (.lst xs) → Q (.ref p) H1) : rListOf K [.ref a] H Q := ⟨a, xs, rfl, e, fun p hp => h p _ (.mk' hp)⟩
theorem o_tupof {a : Addr} {xs : List V} (e : H a = some (.lst xs)) (h : ∀ p H1, New H H1 p (.tup xs) → Q (.ref p) H1) : rTupOf K [.ref a] H Q := ⟨a, xs, rfl, .inl ⟨.inl (.inl e), fun p hp => h p _ (.mk' hp)⟩⟩
/-- pop(i) -/
abbrev rPopA : V → List V → Hp → VK → Prop := rPopAt
theorem seqIx {n : Nat} {z : Int} (h0 : 0 ≤ z) (h1 : z < n) : seqIndex? z n = some z.toNat := seqIndex_of h0 h1
theorem o_popat {a : Addr} {xs : List V} {z : Int} {y : V} (e : H a = some (.lst xs)) (h0 : 0 ≤ z) (h1 : z < xs.length) (h2 : xs.length < 2 ^ 62) (ey : xs[z.toNat]? = some y)
    (h : ∀ H1, Put H H1 a (.lst (xs.eraseIdx z.toNat)) → Q y H1) : rPopA (.ref a) [.int z] H Q :=
  ⟨a, xs, z, z.toNat, y, rfl, rfl, e, by omega, by omega, seqIx h0 h1, ey, h _ .mk'⟩
end
theorem Pot.le {H : Hp} {p : Addr} {n m : Nat} (h : Pot H p n) (l : m ≤ n) : Pot H p m := by
  obtain ⟨a, b, c, e, h1, h2, h3, h4⟩ := h
  exact ⟨a, b, c, e, h1, h2, h3, by omega⟩
theorem Pot.some {H : Hp} {p : Addr} {n : Nat} (h : Pot H p n) : ∃ xs, H p = some (.lst xs) := let ⟨_, _, _, e, _⟩ := h; ⟨_, e⟩
theorem Pot.new {H H1 : Hp} {p q : Addr} {o : HO} {n : Nat} (h : Pot H p n) (k : New H H1 q o) : Pot H1 p n := by
  obtain ⟨a, b, c, e, r⟩ := h
  exact ⟨a, b, c, k.get e, r⟩
theorem Pot.put {H H1 : Hp} {p q : Addr} {o : HO} {n : Nat} (h : Pot H p n) (k : Put H H1 q o) (ne : p ≠ q) : Pot H1 p n := by
  obtain ⟨a, b, c, e, r⟩ := h
  exact ⟨a, b, c, k.get ne e, r⟩
theorem Pot.ne {H : Hp} {p q : Addr} {n : Nat} (h : Pot H p n) (e : H q = none) : p ≠ q := by
  obtain ⟨xs, hx⟩ := h.some
  exact ne_of_none hx e
theorem o_draw {H : Hp} {Q : VK} {E : XK} {p : Addr} {m : Int} {N : Nat} (pt : Pot H p N) (hN : 1 ≤ N) (h1 : 1 ≤ m) (h2 : m < 1073741824)
    (q : ∀ (H' : Hp) (k : Int), Keep (At p) H H' → Pot H' p (N - 1) → 0 ≤ k → k < m → Q (.int k) H') : spDraw [.ref p, .int m] H Q E :=
  ⟨p, m, N - 1, rfl, pt.le (by omega), h1, h2, q⟩
theorem spDraw_arity {vs : List V} {H : Hp} {Q : VK} {E : XK} (h : spDraw vs H Q E) : vs.length = 2 := by
  obtain ⟨_, _, _, rfl, _⟩ := h
  rfl
/-- any(pot, items): one of them -/
def spAny (K : PySem.W.Frag) : Sp := fun vs H Q _ => ∃ (p a : Addr) (xs : List V) (N : Nat), vs = [.ref p, .ref a] ∧ Pot H p N ∧ 1 ≤ N ∧ a ≠ p ∧ (H a = some (.lst xs) ∨ H a = some (.tup xs)) ∧ 1 ≤ xs.length ∧ xs.length < 1073741824 ∧
  ∀ (H' : Hp) (i : Nat) (v : V), xs[i]? = some v → Keep (At p) H H' → Pot H' p (N - 1) → Q v H'
theorem spAny_arity {K : PySem.W.Frag} {vs : List V} {H : Hp} {Q : VK} {E : XK} (h : spAny K vs H Q E) : vs.length = 2 := by
  obtain ⟨_, _, _, _, rfl, _⟩ := h
  rfl
theorem o_any {K : PySem.W.Frag} {H : Hp} {Q : VK} {E : XK} {p a : Addr} {xs : List V} {N : Nat} (pt : Pot H p N) (hN : 1 ≤ N) (na : a ≠ p) (e : H a = some (.lst xs) ∨ H a = some (.tup xs)) (h1 : 1 ≤ xs.length) (h2 : xs.length < 1073741824)
    (q : ∀ (H' : Hp) (i : Nat) (v : V), xs[i]? = some v → Keep (At p) H H' → Pot H' p (N - 1) → Q v H') : spAny K [.ref p, .ref a] H Q E := ⟨p, a, xs, N, rfl, pt, hN, na, e, h1, h2, q⟩
/-- mixed(pot, items): a new list of them in some sequence -/
def spMixed (K : PySem.W.Frag) : Sp := fun vs H Q _ => ∃ (p a : Addr) (xs : List V) (ds : List PyData) (N : Nat), vs = [.ref p, .ref a] ∧ Pot H p N ∧ xs.length ≤ N ∧ a ≠ p ∧ (H a = some (.lst xs) ∨ H a = some (.tup xs)) ∧ xs.length ≤ 1000 ∧
  DDs All H xs ds ∧ (∀ d ∈ ds, d.canLay0 = true ∧ d.depth ≤ 60) ∧
  ∀ (H' : Hp) (q : Addr) (ys : List V), xs.Perm ys → H q = none → H' q = some (.lst ys) → Keep (At p) H H' → Pot H' p (N - xs.length) → Q (.ref q) H'
theorem spMixed_arity {K : PySem.W.Frag} {vs : List V} {H : Hp} {Q : VK} {E : XK} (h : spMixed K vs H Q E) : vs.length = 2 := by
  obtain ⟨_, _, _, _, _, rfl, _⟩ := h
  rfl
/-- pot(script, k) -/
def spPot (K : PySem.W.Frag) : Sp := fun vs H Q _ => ∃ (a : Addr) (k : Int) (ns : List Int), vs = [.ref a, .int k] ∧ SqL K H a (ns.map V.int) ∧ 0 ≤ k ∧ k < 64 ∧ ns.length ≤ 63 ∧
  ∀ (H' : Hp) (p : Addr), H p = none → Keep (fun _ => False) H H' → Pot H' p 8388608 → Q (.ref p) H'
theorem spPot_arity {K : PySem.W.Frag} {vs : List V} {H : Hp} {Q : VK} {E : XK} (h : spPot K vs H Q E) : vs.length = 2 := by
  obtain ⟨_, _, _, rfl, _⟩ := h
  rfl
end LB

namespace LB
open PySem PySem.Spec PyProof.Rows L2
/-! ### True and False among the numbers -/
theorem neg_bl_gives (a : Bool) : Gives (Builtin.«int.__neg__» ⟨[.bool a], []⟩) (.int (-(if a = true then (1 : Int) else 0))) :=
  .of_wp fun M A E s Q h => by obtain ⟨hp, g, d, tk, os⟩ := s; cases a <;> (wp_walk; exact ⟨_, rfl, h⟩)
theorem neg_bl {prog : Program} {w : World} {A : Around} {E : Value → Shared → Prop} {s : Shared} {a : Bool} {Q : Value → Shared → Prop} (h : Q (.int (-(if a = true then (1 : Int) else 0)) s.toks) { s with toks := s.toks + 1 }) : wpAny (model prog w) A (unaryOp .USub (.bool a)) Q E s :=
  PySem.unaryOp_gives (op := .USub) (PySem.typeIs_bool s a) rfl F.slot_bool_neg F.entry_int_neg (F.args_int_neg_1 _) (neg_bl_gives a) h
abbrev bI (b : Bool) : Int := if b = true then 1 else 0
def rAddO (K : PySem.W.Frag) : R2 := fun x y H Q => rAddA K x y H Q ∨ ∃ b j, x = .bl b ∧ y = .int j ∧ Q (.int (bI b + j)) H
def rSubO : R2 := fun x y H Q => rSubI x y H Q ∨ ∃ b j, x = .bl b ∧ y = .int j ∧ Q (.int (bI b - j)) H
def rNegO : V → Hp → VK → Prop := fun x H Q => rNegI x H Q ∨ ∃ b, x = .bl b ∧ Q (.int (-(bI b))) H
def rStrO : List V → Hp → VK → Prop := fun xs H Q => rStrInt xs H Q ∨ ∃ b : Bool, xs = [.bl b] ∧ Q (.str (if b then "True" else "False")) H
def rEqO (K : PySem.W.Frag) : R2 := fun x y H Q => rEqA K x y H Q ∨ ∃ b j, x = .bl b ∧ y = .int j ∧ Q (.bl (bI b == j)) H
section
variable {X : Cx}
theorem op_addO : OpR X (binaryOp .Add) (rAddO X.K) := op_addA.or (by
  intro pins s σ H x y v u Q I rx ry h
  obtain ⟨b, j, rfl, rfl, q⟩ := h
  cases rx
  obtain ⟨t, rfl⟩ := ry
  exact IntBool.add_bool_int ⟨.int (bI b + j), H, I.tok _, ⟨_, rfl⟩, q⟩)
theorem op_subO : OpR X (binaryOp .Sub) rSubO := op_sub.or (by
  intro pins s σ H x y v u Q I rx ry h
  obtain ⟨b, j, rfl, rfl, q⟩ := h
  cases rx
  obtain ⟨t, rfl⟩ := ry
  exact IntBool.sub_bool_int ⟨.int (bI b - j), H, I.tok _, ⟨_, rfl⟩, q⟩)
theorem op_eqO (u : X.A.units + 65 < cLine) : OpR X (compareOp .Eq) (rEqO X.K) := (op_eqA u).or (by
  intro pins s σ H x y v u Q I rx ry h
  obtain ⟨b, j, rfl, rfl, q⟩ := h
  cases rx
  obtain ⟨t, rfl⟩ := ry
  exact EqBoolInt.eq_bool_int ⟨.bl (bI b == j), H, I, rfl, q⟩)
theorem un_negO : UnR X (unaryOp .USub) rNegO := by
  intro pins s σ H x v Q I rx h
  rcases h with h | ⟨b, rfl, q⟩
  · exact un_neg pins s σ H x v Q I rx h
  · cases rx
    exact neg_bl ⟨.int (-(bI b)), H, I.tok _, ⟨_, rfl⟩, q⟩
theorem call_strO : CallR X (.type "str") rStrO := by
  intro pins s σ H xs us Q I r h
  rcases h with h | ⟨b, rfl, q⟩
  · exact call_str_int pins s σ H xs us Q I r h
  · obtain ⟨u, rfl, r1⟩ := vals1 r
    cases r1
    exact PySem.P.str_of_bool ⟨.str _, H, I.tok _, ⟨_, rfl⟩, q⟩
theorem mt_popA : MtM X "list.pop" rPopA := mt_popAt
abbrev rExtendA : V → List V → Hp → VK → Prop := rExtend
theorem mt_extendA : MtM X "list.extend" rExtendA := mt_extend
end
/-! ### slices and sums of tuples; lists twice -/
abbrev NoS : Addr → Prop := fun _ => False
theorem Pot.keep {H H1 : Hp} {p : Addr} {n : Nat} (h : Pot H p n) (k : Keep NoS H H1) : Pot H1 p n := by
  obtain ⟨a, b, c, e, r⟩ := h
  exact ⟨a, b, c, k.all _ _ id e, r⟩
theorem Keep.of0 {S : Addr → Prop} {H H1 : Hp} (k : Keep NoS H H1) : Keep S H H1 := k.mono fun _ h => h.elim
def cutD (ds : List PyData) (lo hi : Option Int) : List PyData := (ds.drop (HT.sIx ds.length 0 lo)).take (HT.sIx ds.length ds.length hi - HT.sIx ds.length 0 lo)
theorem DDs.cut {S : Addr → Prop} {H : Hp} {xs : List V} {ds : List PyData} (h : DDs S H xs ds) (lo hi : Option Int) : DDs S H (cutV xs lo hi) (cutD ds lo hi) := by
  unfold cutV cutD
  rw [h.length]
  exact (h.drop _).take _
theorem cutV_full {xs : List V} {lo hi : Option Int} (h : HT.sIx xs.length 0 lo = 0 ∧ HT.sIx xs.length xs.length hi = xs.length) : cutV xs lo hi = xs := by
  unfold cutV
  rw [h.1, h.2, List.drop_zero, Nat.sub_zero, List.take_length]
theorem cutD_mem {ds : List PyData} {lo hi : Option Int} {d : PyData} (h : d ∈ cutD ds lo hi) : d ∈ ds := List.mem_of_mem_drop (List.mem_of_mem_take h)
section
variable {K : PySem.W.Frag} {H : Hp} {Q : VK}
theorem o_slt {a : Addr} {xs : List V} {lo hi : Option Int} (e : H a = some (.tup xs)) (h : ∀ p H1, Keep NoS H H1 → H1 p = some (.tup (cutV xs lo hi)) → Q (.ref p) H1) : rSlAny K (.ref a) lo hi H Q :=
  .inr (.inl ⟨a, xs, rfl, .inl (.inl e), fun w => h a H (Keep.refl _ _) (by rw [cutV_full w]; exact e), fun _ p hp => h p _ (Keep.new hp) upd_same⟩)
theorem o_catt {a b : Addr} {xs ys : List V} (e1 : H a = some (.tup xs)) (e2 : H b = some (.tup ys)) (e : xs.length + ys.length ≤ sizeLine) (h : ∀ p H1, Keep NoS H H1 → H1 p = some (.tup (xs ++ ys)) → Q (.ref p) H1) : rAddA K (.ref a) (.ref b) H Q :=
  .inr (.inr (.inr ⟨a, b, xs, ys, rfl, rfl, .inl (.inl e1), .inl (.inl e2), e, fun z => h b H (Keep.refl _ _) (by rw [z]; exact e2), fun _ z => h a H (Keep.refl _ _) (by rw [z, List.append_nil]; exact e1), fun _ _ p hp => h p _ (Keep.new hp) upd_same⟩))
theorem o_rep2 {a : Addr} {xs : List V} (e : H a = some (.lst xs)) (z : xs.length * 2 ≤ sizeLine) (h : ∀ p H1, New H H1 p (.lst (xs ++ xs)) → Q (.ref p) H1) : rMulA K (.ref a) (.int 2) H Q :=
  .inr (.inr (.inl ⟨a, 2, xs, rfl, rfl, e, by decide, by decide, z, fun p hp => h p _ (by
    have : (List.replicate (2 : Int).toNat xs).flatten = xs ++ xs := by
      show (List.replicate 2 xs).flatten = _
      simp [List.replicate]
    rw [this]
    exact .mk' hp)⟩))
theorem o_extend {a b : Addr} {xs ys : List V} (e1 : H a = some (.lst xs)) (e2 : H b = some (.lst ys)) (e : xs.length + ys.length ≤ sizeLine) (h : ∀ H1, Put H H1 a (.lst (xs ++ ys)) → Q .non H1) : rExtendA (.ref a) [.ref b] H Q := ⟨a, b, xs, ys, rfl, rfl, e1, e2, e, h _ .mk'⟩
theorem o_sls {z : Str} {lo hi : Option Int} (e : z.length ≤ sizeLine) (h : Q (.str (cutS z lo hi)) H) : rSlAny K (.str z) lo hi H Q := .inr (.inr ⟨z, rfl, e, h⟩)
theorem w_dnew {σ : LB.St} (h : ∀ p H1, New H H1 p (.dK []) → Q (.ref p) H1) : tDNewK σ H Q := fun p hp => h p _ (.mk' hp)
theorem w_m0 {σ : LB.St} {r : V → List V → Hp → VK → Prop} {to : TE} (h : to σ H fun x H1 => (∃ a, x = .str a) ∧ r x [] H1 Q) : tM0 r to σ H Q := h
theorem oo_add {x y : V} (h : rAddA K x y H Q) : rAddO K x y H Q := .inl h
theorem oo_addb {b : Bool} {j : Int} (h : Q (.int (bI b + j)) H) : rAddO K (.bl b) (.int j) H Q := .inr ⟨b, j, rfl, rfl, h⟩
theorem oo_sub {i j : Int} (h : Q (.int (i - j)) H) : rSubO (.int i) (.int j) H Q := .inl ⟨i, j, rfl, rfl, h⟩
theorem oo_subb {b : Bool} {j : Int} (h : Q (.int (bI b - j)) H) : rSubO (.bl b) (.int j) H Q := .inr ⟨b, j, rfl, rfl, h⟩
theorem oo_neg {i : Int} (h : Q (.int (-i)) H) : rNegO (.int i) H Q := .inl ⟨i, rfl, h⟩
theorem oo_negb {b : Bool} (h : Q (.int (-(bI b))) H) : rNegO (.bl b) H Q := .inr ⟨b, rfl, h⟩
theorem oo_str {i : Int} (e : i.natAbs.log2 < 1920) (h : Q (.str (toString i)) H) : rStrO [.int i] H Q := .inl ⟨i, rfl, e, h⟩
theorem oo_strb {b : Bool} (h : Q (.str (if b then "True" else "False")) H) : rStrO [.bl b] H Q := .inr ⟨b, rfl, h⟩
theorem oo_eq {i j : Int} (h : Q (.bl (decide (V.int i = V.int j))) H) : rEqO K (.int i) (.int j) H Q := .inl (o_eqs rfl h)
theorem oo_eqb {b : Bool} {j : Int} (h : Q (.bl (bI b == j)) H) : rEqO K (.bl b) (.int j) H Q := .inr ⟨b, j, rfl, rfl, h⟩
end
end LB

open PySem PySem.Spec PyProof.Rows L2 LB
/-! the tactic: one step of a reading; many -/
local macro_rules | `(tactic| walk_at "w1_1") => `(tactic| first
  | with_reducible refine w_seq ?_ | with_reducible refine w_asg ?_ | with_reducible refine w_drop ?_ | with_reducible refine w_ret ?_ | with_reducible refine w_next ?_
  | with_reducible refine w_ifs ?_ | with_reducible refine w_forR1 ?_ | with_reducible refine w_forR2 ?_ | with_reducible refine w_forL ?_ | with_reducible refine w_forT ?_ | with_reducible refine w_name ?_ | with_reducible refine w_sub ?_ | with_reducible refine w_par ?_
  | with_reducible refine w_var (by with_unfolding_all rfl) ?_ | with_reducible refine w_c ?_ | with_reducible refine w_op ?_ | with_reducible refine w_un ?_
  | with_reducible refine w_test ?_ | with_reducible refine w_tb ?_ | with_reducible refine w_nil ?_ | with_reducible refine w_cons ?_ | with_reducible refine w_cb ?_ | with_reducible refine w_call ?_
  | with_reducible refine w_not ?_ | with_reducible refine w_and ?_ | with_reducible refine w_or ?_ | with_reducible refine w_andV ?_ | with_reducible refine w_orV ?_ | with_reducible refine w_notV ?_
  | with_reducible refine w_ife ?_ | with_reducible refine w_chain ?_ | with_reducible refine w_bm ?_ | with_reducible refine w_sl ?_ | with_reducible refine w_part ?_ | with_reducible refine w_nopart ?_
  | with_reducible refine w_exb ?_ | with_reducible refine w_exi ?_ | with_reducible refine w_ex2 ?_ | with_reducible refine w_ex3 ?_ | with_reducible refine w_lstrg ?_ | with_reducible refine w_rg2 ?_ | with_reducible refine w_rg1 ?_ | with_reducible refine w_exij ?_ | with_reducible refine w_tup ?_ | with_reducible refine w_lst ?_
  | with_reducible refine o_add ?_ | with_reducible refine o_sub ?_ | with_reducible refine o_neg ?_ | with_reducible refine o_lt ?_ | with_reducible refine o_le ?_ | with_reducible refine o_gt ?_ | with_reducible refine o_ge ?_
  | with_reducible refine o_ixL (by assumption) (by decide) (by with_unfolding_all rfl) ?_ | with_reducible refine o_ixT (by assumption) (by decide) (by with_unfolding_all rfl) ?_
  | with_reducible refine o_mod (by first | decide | omega) ?_ | with_reducible refine o_mul (by first | decide | omega) ?_ | with_reducible refine o_fdv (by first | decide | omega) (by first | decide | omega) ?_ | with_reducible refine o_setL (by assumption) (by decide) (by simp) ?_
  | with_reducible refine oo_addi ?_ | with_reducible refine oo_sub ?_ | with_reducible refine oo_neg ?_ | with_reducible refine w_rev ?_ | with_reducible refine w_m0 ?_
  | with_reducible refine w_par3 ?_ | with_reducible refine w_tyl (by assumption) ?_
  | with_reducible refine o_abs ?_ | with_reducible refine o_eqs (by with_unfolding_all rfl) ?_ | with_reducible refine o_nes (by with_unfolding_all rfl) ?_ | with_reducible refine o_max2 ?_ | with_reducible refine o_min2 ?_ | with_reducible refine o_isiX (by assumption) ?_ | with_reducible refine o_lenl (by assumption) ?_ | with_reducible refine o_lent (by assumption) ?_ | with_reducible refine o_int1b ?_)
local macro_rules | `(tactic| walk_at "ws_1") => `(tactic| repeat (first | walk_at "w1_1" | dsimp only [List.set_cons_zero, List.set_cons_succ]))
namespace LB
/-! ### kinds -/
def isIntD : PyData → Bool
  | .int _ => true
  | _ => false
def within : PyData → Int → Int → Bool
  | .int i, lo, hi => decide (lo ≤ i) && decide (i ≤ hi)
  | _, _, _ => false
def leD : PyData → PyData → Bool
  | .int i, .int j => decide (i ≤ j)
  | _, _ => false
def fitsD (k v : PyData) : Bool := if eqStr k "write" = true then within v 1 1000000000 else eqStr k "read" && within v 0 1000000000
def stampD (v : PyData) : Bool := within v (-1000000000000000) 1000000000000000
def stampsD (b e : PyData) : Bool := stampD b && (stampD e && leD b e)
/-- an operation -/
def isOpD : PyData → Bool
  | .tuple [k, v, b, e] => fitsD k v && stampsD b e
  | _ => false
theorem isT_int (d : PyData) : isT "int" d = (match d with | .int _ => true | .bool _ => true | _ => false) := by cases d <;> (show isTs _ _ = _; simp only [tyN]; decide +kernel)
theorem isT_bool (d : PyData) : isT "bool" d = (match d with | .bool _ => true | _ => false) := by cases d <;> (show isTs _ _ = _; simp only [tyN]; decide +kernel)
theorem isT_str (d : PyData) : isT "str" d = (match d with | .str _ => true | _ => false) := by cases d <;> (show isTs _ _ = _; simp only [tyN]; decide +kernel)
theorem isT_tuple (d : PyData) : isT "tuple" d = (match d with | .tuple _ => true | _ => false) := by cases d <;> (show isTs _ _ = _; simp only [tyN]; decide +kernel)
theorem DD.tupX {S : Addr → Prop} {H : Hp} {x : V} {ds : List PyData} (h : DD S H x (.tuple ds)) : ∃ a xs, x = .ref a ∧ H a = some (.tup xs) ∧ DDs S H xs ds := by
  cases h with
  | tup e r => exact ⟨_, _, rfl, e, r⟩
theorem DD.intX {S : Addr → Prop} {H : Hp} {x : V} {i : Int} (h : DD S H x (.int i)) : x = .int i := by cases h; rfl
theorem DD.strX {S : Addr → Prop} {H : Hp} {x : V} {i : Str} (h : DD S H x (.str i)) : x = .str i := by cases h; rfl
theorem DDs.four {S : Addr → Prop} {H : Hp} {xs : List V} {a b c d : PyData} (h : DDs S H xs [a, b, c, d]) : ∃ x y z w, xs = [x, y, z, w] ∧ DD S H x a ∧ DD S H y b ∧ DD S H z c ∧ DD S H w d := by
  cases h with
  | cons h1 h =>
    cases h with
    | cons h2 h =>
      cases h with
      | cons h3 h =>
        cases h with
        | cons h4 h =>
          cases h
          exact ⟨_, _, _, _, rfl, h1, h2, h3, h4⟩
theorem len4 {ds : List PyData} (h : ds.length = 4) : ∃ a b c d, ds = [a, b, c, d] := by
  match ds, h with
  | [a, b, c, d], _ => exact ⟨a, b, c, d, rfl⟩
def spIsInt : Sp := fun vs H Q _ => ∃ (x : V) (d : PyData) (S : Addr → Prop), vs = [x] ∧ DD S H x d ∧ Q (.bl (isIntD d)) H
theorem spIsInt_arity {vs : List V} {H : Hp} {Q : VK} {E : XK} (h : spIsInt vs H Q E) : vs.length = 1 := by obtain ⟨_, _, _, rfl, _⟩ := h; rfl
def spWithin : Sp := fun vs H Q _ => ∃ (x : V) (d : PyData) (S : Addr → Prop) (lo hi : Int), vs = [x, .int lo, .int hi] ∧ DD S H x d ∧ Q (.bl (within d lo hi)) H
theorem spWithin_arity {vs : List V} {H : Hp} {Q : VK} {E : XK} (h : spWithin vs H Q E) : vs.length = 3 := by obtain ⟨_, _, _, _, _, rfl, _⟩ := h; rfl
def spStamp : Sp := fun vs H Q _ => ∃ (x : V) (d : PyData) (S : Addr → Prop), vs = [x] ∧ DD S H x d ∧ Q (.bl (stampD d)) H
theorem spStamp_arity {vs : List V} {H : Hp} {Q : VK} {E : XK} (h : spStamp vs H Q E) : vs.length = 1 := by obtain ⟨_, _, _, rfl, _⟩ := h; rfl
def spStamps : Sp := fun vs H Q _ => ∃ (x y : V) (d e : PyData) (S : Addr → Prop), vs = [x, y] ∧ DD S H x d ∧ DD S H y e ∧ Q (.bl (stampsD d e)) H
theorem spStamps_arity {vs : List V} {H : Hp} {Q : VK} {E : XK} (h : spStamps vs H Q E) : vs.length = 2 := by obtain ⟨_, _, _, _, _, rfl, _⟩ := h; rfl
def spFits : Sp := fun vs H Q _ => ∃ (x y : V) (d e : PyData) (S : Addr → Prop), vs = [x, y] ∧ DD S H x d ∧ DD S H y e ∧ Q (.bl (fitsD d e)) H
theorem spFits_arity {vs : List V} {H : Hp} {Q : VK} {E : XK} (h : spFits vs H Q E) : vs.length = 2 := by obtain ⟨_, _, _, _, _, rfl, _⟩ := h; rfl
def spIsOp : Sp := fun vs H Q _ => ∃ (x : V) (d : PyData) (S : Addr → Prop), vs = [x] ∧ DD S H x d ∧ Q (.bl (isOpD d)) H
theorem spIsOp_arity {vs : List V} {H : Hp} {Q : VK} {E : XK} (h : spIsOp vs H Q E) : vs.length = 1 := by obtain ⟨_, _, _, rfl, _⟩ := h; rfl
abbrev spIsNum : Sp := spWithin
theorem spIsNum_arity {vs : List V} {H : Hp} {Q : VK} {E : XK} (h : spIsNum vs H Q E) : vs.length = 3 := spWithin_arity h
def spIsCall : Sp := fun vs H Q _ => ∃ (x : V) (d : PyData) (S : Addr → Prop), vs = [x] ∧ DD S H x d ∧ ∀ H1, Keep NoS H H1 → Q (.bl (isOpD d)) H1
theorem spIsCall_arity {vs : List V} {H : Hp} {Q : VK} {E : XK} (h : spIsCall vs H Q E) : vs.length = 1 := by obtain ⟨_, _, _, rfl, _⟩ := h; rfl

def t_is_integer (K : PySem.W.Frag) : TS :=
  (tRet (tAndV (tCB (rIsi K) (tCons (tVar 0) (tCons (tC (V.ty "int")) tNil))) (tNotV (tCB (rIsi K) (tCons (tVar 0) (tCons (tC (V.ty "bool")) tNil))))))

def t_is_integer_within (K : PySem.W.Frag) : TS :=
  (tRet (tAndV (tCall spIsInt [] E0 (tCons (tVar 0) tNil)) (tChain rLeI rLeI (tVar 1) (tVar 0) (tVar 2))))

def t__is_stamp (K : PySem.W.Frag) : TS :=
  (tRet (tCall spWithin [] E0 (tCons (tVar 0) (tCons (tUn rNegI (tC (V.int 1000000000000000))) (tCons (tC (V.int 1000000000000000)) tNil)))))

def t__are_stamps (K : PySem.W.Frag) : TS :=
  (tRet (tAndV (tCall spStamp [] E0 (tCons (tVar 0) tNil)) (tAndV (tCall spStamp [] E0 (tCons (tVar 1) tNil)) (tOp rLeI (tVar 0) (tVar 1)))))

def t__fits_kind (K : PySem.W.Frag) : TS :=
  (tSeq (tIfS (tTest (tOp (rEqA K) (tVar 0) (tC (V.str "write"))))
    (tRet (tCall spWithin [] E0 (tCons (tVar 1) (tCons (tC (V.int 1)) (tCons (tC (V.int 1000000000)) tNil))))) tNext)
    (tRet (tAndV (tOp (rEqA K) (tVar 0) (tC (V.str "read"))) (tCall spWithin [] E0 (tCons (tVar 1) (tCons (tC (V.int 0)) (tCons (tC (V.int 1000000000)) tNil)))))))

def t_is_operation (K : PySem.W.Frag) : TS :=
  (tSeq (tIfS (tOr (tNot (tB (tCB (rIsi K) (tCons (tVar 0) (tCons (tC (V.ty "tuple")) tNil))))) (tTest (tOp (rNeA K) (tCB (rLen K) (tCons (tVar 0) tNil)) (tC (V.int 4)))))
    (tRet (tC (V.bl false))) tNext)
    (tSeq (tAsg (tVar 0) (gTup K 4 (gCons (gName 1) (gCons (gName 2) (gCons (gName 3) (gCons (gName 4) gNil))))))
    (tRet (tAndV (tCall spFits [] E0 (tCons (tVar 1) (tCons (tVar 2) tNil))) (tCall spStamps [] E0 (tCons (tVar 3) (tCons (tVar 4) tNil)))))))

def t__law_is_number (K : PySem.W.Frag) : TS :=
  (tRet (tAndV (tCB (rIsi K) (tCons (tVar 0) (tCons (tC (V.ty "int")) tNil))) (tAndV (tNotV (tCB (rIsi K) (tCons (tVar 0) (tCons (tC (V.ty "bool")) tNil)))) (tChain rLeI rLeI (tVar 1) (tVar 0) (tVar 2)))))

def t__law_is_call (K : PySem.W.Frag) : TS :=
  (tSeq (tIfS (tOr (tNot (tB (tCB (rIsi K) (tCons (tVar 0) (tCons (tC (V.ty "tuple")) tNil))))) (tOr (tTest (tOp (rNeA K) (tCB (rLen K) (tCons (tVar 0) tNil)) (tC (V.int 4)))) (tNot (tB (tCB (rIsi K) (tCons (tOp (rIx K) (tVar 0) (tC (V.int 0))) (tCons (tC (V.ty "str")) tNil)))))))
    (tRet (tC (V.bl false))) tNext)
    (tSeq (tIfS (tOr (tTest (tOp (rNiA K) (tOp (rIx K) (tVar 0) (tC (V.int 0))) (tTup (tCons (tC (V.str "read")) (tCons (tC (V.str "write")) tNil))))) (tNot (tB (tCall spIsNum [] E0 (tCons (tOp (rIx K) (tVar 0) (tC (V.int 1))) (tCons (tCB rInt1 (tCons (tOp (rEqA K) (tOp (rIx K) (tVar 0) (tC (V.int 0))) (tC (V.str "write"))) tNil)) (tCons (tOp rPowI (tC (V.int 10)) (tC (V.int 9))) tNil)))))))
    (tRet (tC (V.bl false))) tNext)
    (tSeq (tIfS (tOr (tNot (tB (tCall spIsNum [] E0 (tCons (tOp (rIx K) (tVar 0) (tC (V.int 2))) (tCons (tUn rNegI (tOp rPowI (tC (V.int 10)) (tC (V.int 15)))) (tCons (tOp rPowI (tC (V.int 10)) (tC (V.int 15))) tNil)))))) (tNot (tB (tCall spIsNum [] E0 (tCons (tOp (rIx K) (tVar 0) (tC (V.int 3))) (tCons (tUn rNegI (tOp rPowI (tC (V.int 10)) (tC (V.int 15)))) (tCons (tOp rPowI (tC (V.int 10)) (tC (V.int 15))) tNil)))))))
    (tRet (tC (V.bl false))) tNext)
    (tRet (tOp rLeI (tOp (rIx K) (tVar 0) (tC (V.int 2))) (tOp (rIx K) (tVar 0) (tC (V.int 3))))))))

theorem pure_is_integer {K : PySem.W.Frag} {vs : List V} {H : Hp} {Q : VK} {E : XK} (h : spIsInt vs H Q E) : t_is_integer K { nx := fun _ H' => Q .non H', rt := Q } (start ["value"] vs) H := by
  obtain ⟨x, d, S, rfl, hd, q⟩ := h
  show t_is_integer K _ [some x] H
  unfold t_is_integer
  walk_at "ws_1"
  rw [isT_int]
  refine w_iteb (fun c => ?_) (fun c => ?_)
  · walk_at "ws_1"
    rw [isT_bool]
    cases d <;> first | (cases c; done) | exact q
  · cases d <;> first | (cases c; done) | exact q
theorem pure__law_is_number {K : PySem.W.Frag} {vs : List V} {H : Hp} {Q : VK} {E : XK} (h : spIsNum vs H Q E) : t__law_is_number K { nx := fun _ H' => Q .non H', rt := Q } (start ["thing", "least", "most"] vs) H := by
  obtain ⟨x, d, S, lo, hi, rfl, hd, q⟩ := h
  show t__law_is_number K _ [some x, some (.int lo), some (.int hi)] H
  unfold t__law_is_number
  walk_at "ws_1"
  rw [isT_int]
  refine w_iteb (fun c => ?_) (fun c => ?_)
  · walk_at "ws_1"
    rw [isT_bool]
    cases d with
    | int i =>
      have := hd.intX
      subst this
      refine w_iteT rfl ?_
      walk_at "ws_1"
      refine w_iteb (fun c1 => ?_) (fun c1 => ?_)
      · walk_at "ws_1"
        simp only [within, c1, Bool.true_and] at q
        exact q
      · simp only [within, c1, Bool.false_and] at q
        exact q
    | bool b => exact q
    | _ => cases c
  · cases d <;> first | (cases c; done) | exact q
theorem pure_is_integer_within {K : PySem.W.Frag} {vs : List V} {H : Hp} {Q : VK} {E : XK} (h : spWithin vs H Q E) : t_is_integer_within K { nx := fun _ H' => Q .non H', rt := Q } (start ["value", "least", "greatest"] vs) H := by
  obtain ⟨x, d, S, lo, hi, rfl, hd, q⟩ := h
  show t_is_integer_within K _ [some x, some (.int lo), some (.int hi)] H
  unfold t_is_integer_within
  walk_at "ws_1"
  refine ⟨x, d, S, rfl, hd, ?_⟩
  walk_at "ws_1"
  cases d with
  | int i =>
    have := hd.intX
    subst this
    refine w_iteT rfl ?_
    walk_at "ws_1"
    refine w_iteb (fun c1 => ?_) (fun c1 => ?_)
    · walk_at "ws_1"
      simp only [within, c1, Bool.true_and] at q
      exact q
    · simp only [within, c1, Bool.false_and] at q
      exact q
  | _ => exact q
theorem pure__is_stamp {K : PySem.W.Frag} {vs : List V} {H : Hp} {Q : VK} {E : XK} (h : spStamp vs H Q E) : t__is_stamp K { nx := fun _ H' => Q .non H', rt := Q } (start ["value"] vs) H := by
  obtain ⟨x, d, S, rfl, hd, q⟩ := h
  show t__is_stamp K _ [some x] H
  unfold t__is_stamp
  walk_at "ws_1"
  exact ⟨x, d, S, _, _, rfl, hd, q⟩
theorem within_int {d : PyData} {lo hi : Int} (h : within d lo hi = true) : ∃ i, d = .int i := by
  cases d <;> first | exact ⟨_, rfl⟩ | (simp only [within] at h; cases h)
theorem pure__are_stamps {K : PySem.W.Frag} {vs : List V} {H : Hp} {Q : VK} {E : XK} (h : spStamps vs H Q E) : t__are_stamps K { nx := fun _ H' => Q .non H', rt := Q } (start ["begin", "end"] vs) H := by
  obtain ⟨x, y, d, e, S, rfl, hd, he, q⟩ := h
  show t__are_stamps K _ [some x, some y] H
  unfold t__are_stamps
  walk_at "ws_1"
  refine ⟨x, d, S, rfl, hd, ?_⟩
  walk_at "ws_1"
  refine w_iteb (fun c1 => ?_) (fun c1 => ?_)
  · walk_at "ws_1"
    refine ⟨y, e, S, rfl, he, ?_⟩
    walk_at "ws_1"
    refine w_iteb (fun c2 => ?_) (fun c2 => ?_)
    · obtain ⟨i, rfl⟩ := within_int c1
      obtain ⟨j, rfl⟩ := within_int c2
      have := hd.intX
      subst this
      have := he.intX
      subst this
      walk_at "ws_1"
      simp only [stampsD, c1, c2, Bool.true_and] at q
      exact q
    · simp only [stampsD, c1, c2, Bool.true_and, Bool.false_and] at q
      exact q
  · simp only [stampsD, c1, Bool.false_and] at q
    exact q
theorem o_eqx {K : PySem.W.Frag} {S : Addr → Prop} {H : Hp} {Q : VK} {x : V} {d : PyData} {z : Str} (h : DD S H x d) (q : Q (.bl (eqStr d z)) H) : rEqA K x (.str z) H Q := .inr (.inl ⟨d, S, z, h, rfl, q⟩)
theorem pure__fits_kind {K : PySem.W.Frag} {vs : List V} {H : Hp} {Q : VK} {E : XK} (h : spFits vs H Q E) : t__fits_kind K { nx := fun _ H' => Q .non H', rt := Q } (start ["kind", "held"] vs) H := by
  obtain ⟨x, y, d, e, S, rfl, hd, he, q⟩ := h
  show t__fits_kind K _ [some x, some y] H
  unfold t__fits_kind
  walk_at "ws_1"
  refine o_eqx hd ?_
  walk_at "ws_1"
  refine w_iteb (fun c1 => ?_) (fun c1 => ?_)
  · walk_at "ws_1"
    refine ⟨y, e, S, _, _, rfl, he, ?_⟩
    simp only [fitsD, c1, if_true] at q
    exact q
  · walk_at "ws_1"
    refine o_eqx hd ?_
    walk_at "ws_1"
    refine w_iteb (fun c2 => ?_) (fun c2 => ?_)
    · walk_at "ws_1"
      refine ⟨y, e, S, _, _, rfl, he, ?_⟩
      simp only [fitsD, c1, c2, Bool.false_eq_true, if_false, Bool.true_and] at q
      exact q
    · simp only [fitsD, c1, c2, Bool.false_eq_true, if_false, Bool.false_and] at q
      exact q
theorem pure_is_operation {K : PySem.W.Frag} {vs : List V} {H : Hp} {Q : VK} {E : XK} (h : spIsOp vs H Q E) : t_is_operation K { nx := fun _ H' => Q .non H', rt := Q } (start ["value", "kind", "held", "begin", "end"] vs) H := by
  obtain ⟨x, d, S, rfl, hd, q⟩ := h
  show t_is_operation K _ [some x, none, none, none, none] H
  unfold t_is_operation
  walk_at "ws_1"
  rw [isT_tuple]
  cases d with
  | tuple ds =>
    refine w_iteF rfl ?_
    obtain ⟨a, xs, rfl, ha, hx⟩ := hd.tupX
    have hl := hx.length
    walk_at "ws_1"
    by_cases h4 : ds.length = 4
    · refine w_iteF (by rw [hl, h4]; rfl) ?_
      obtain ⟨k, v, b, e, rfl⟩ := len4 h4
      obtain ⟨x1, x2, x3, x4, rfl, d1, d2, d3, d4⟩ := hx.four
      walk_at "ws_1"
      refine ⟨a, [x1, x2, x3, x4], rfl, .inl (.inl ha), rfl, x1, _, rfl, x2, _, rfl, x3, _, rfl, x4, _, rfl, rfl, ?_⟩
      show _
      walk_at "ws_1"
      refine ⟨x1, x2, k, v, S, rfl, d1, d2, ?_⟩
      walk_at "ws_1"
      refine w_iteb (fun c1 => ?_) (fun c1 => ?_)
      · walk_at "ws_1"
        refine ⟨x3, x4, b, e, S, rfl, d3, d4, ?_⟩
        simp only [isOpD, c1, Bool.true_and] at q
        exact q
      · simp only [isOpD, c1, Bool.false_and] at q
        exact q
    · refine w_iteT (by rw [hl]; simp; omega) ?_
      walk_at "ws_1"
      have : isOpD (.tuple ds) = false := by
        unfold isOpD
        split
        · rename_i e
          injection e with e
          subst e
          exact absurd rfl h4
        · rfl
      rw [this] at q
      exact q
  | _ => exact q
theorem inV_rw {z : Str} : inV (.str z) [V.str "read", V.str "write"] = (decide (z = "read") || decide (z = "write")) := by
  unfold inV
  rw [List.any_cons, List.any_cons, List.any_nil, Bool.or_false]
  have e : ∀ a b : Str, eqV (.str a) (.str b) = decide (b = a) := fun a b => by
    unfold eqV
    first
      | exact decide_eq_decide.mpr ⟨Eq.symm, Eq.symm⟩
      | (by_cases h : a = b
         · subst h; simp
         · have : b ≠ a := fun z => h z.symm
           simp [h, this])
  rw [e, e]
theorem pure__law_is_call {K : PySem.W.Frag} {vs : List V} {H : Hp} {Q : VK} {E : XK} (h : spIsCall vs H Q E) : t__law_is_call K { nx := fun _ H' => Q .non H', rt := Q } (start ["thing"] vs) H := by
  obtain ⟨x, d, S, rfl, hd, q⟩ := h
  show t__law_is_call K _ [some x] H
  unfold t__law_is_call
  walk_at "ws_1"
  rw [isT_tuple]
  have q0 := q H (Keep.refl _ _)
  cases d with
  | tuple ds =>
    refine w_iteF rfl ?_
    obtain ⟨a, xs, rfl, ha, hx⟩ := hd.tupX
    have hl := hx.length
    walk_at "ws_1"
    by_cases h4 : ds.length = 4
    · refine w_iteF (by rw [hl, h4]; rfl) ?_
      obtain ⟨k, v, b, e, rfl⟩ := len4 h4
      obtain ⟨x1, x2, x3, x4, rfl, d1, d2, d3, d4⟩ := hx.four
      walk_at "ws_1"
      rw [isT_str]
      cases k with
      | str z =>
        have := d1.strX
        subst this
        refine w_iteF rfl ?_
        walk_at "ws_1"
        refine k_tup (by simp; decide) fun t H1 n1 => ?_
        have ha1 := n1.get ha
        have d2 := d2.keep (n1.keep)
        have d3 := d3.keep (n1.keep)
        have d4 := d4.keep (n1.keep)
        have q1 := q H1 n1.keep
        refine .inl ⟨t, _, rfl, .inr (.inl (.inl n1.at_)), rfl, rfl, ?_⟩
        rw [if_pos rfl]
        walk_at "ws_1"
        rw [inV_rw]
        refine w_iteb (fun c1 => ?_) (fun c1 => ?_)
        · walk_at "ws_1"
          have : isOpD (.tuple [.str z, v, b, e]) = false := by
            simp only [isOpD, fitsD, eqStr]
            simp at c1
            simp [c1.1, c1.2]
          rw [this] at q1
          exact q1
        · simp only [Bool.not_eq_false'] at c1
          walk_at "ws_1"
          refine o_pow ⟨by decide, by decide +kernel⟩ ?_
          walk_at "ws_1"
          rw [show (10 : Int) ^ (9 : Int).toNat = 1000000000 by decide +kernel]
          refine ⟨x2, v, S, _, _, rfl, d2, ?_⟩
          have e1 : fitsD (.str z) v = within v (if decide (V.str z = V.str "write") = true then 1 else 0) 1000000000 := by
            have e0 : decide (V.str z = V.str "write") = decide (z = "write") := by simp
            rw [e0]
            simp only [fitsD, eqStr]
            by_cases hz : z = "write"
            · subst hz
              rfl
            · simp only [hz, decide_false, Bool.false_eq_true, if_false]
              simp only [hz, decide_false, Bool.or_false] at c1
              rw [c1, Bool.true_and]
          rw [← e1]
          walk_at "ws_1"
          refine w_iteb (fun c2 => ?_) (fun c2 => ?_)
          · walk_at "ws_1"
            have : isOpD (.tuple [.str z, v, b, e]) = false := by
              simp only [Bool.not_eq_true'] at c2
              simp only [isOpD, c2, Bool.false_and]
            rw [this] at q1
            exact q1
          · simp only [Bool.not_eq_false'] at c2
            have ev : isOpD (.tuple [.str z, v, b, e]) = stampsD b e := by simp only [isOpD, c2, Bool.true_and]
            rw [ev] at q1
            walk_at "ws_1"
            refine o_pow ⟨by decide, by decide +kernel⟩ ?_
            walk_at "ws_1"
            rw [show (10 : Int) ^ (15 : Int).toNat = 1000000000000000 by decide +kernel]
            refine o_pow ⟨by decide, by decide +kernel⟩ ?_
            walk_at "ws_1"
            rw [show (10 : Int) ^ (15 : Int).toNat = 1000000000000000 by decide +kernel]
            refine ⟨x3, b, S, _, _, rfl, d3, ?_⟩
            walk_at "ws_1"
            refine w_iteb (fun c3 => ?_) (fun c3 => ?_)
            · walk_at "ws_1"
              simp only [Bool.not_eq_true'] at c3
              simp only [stampsD, stampD, c3, Bool.false_and] at q1
              exact q1
            · simp only [Bool.not_eq_false'] at c3
              walk_at "ws_1"
              refine o_pow ⟨by decide, by decide +kernel⟩ ?_
              walk_at "ws_1"
              rw [show (10 : Int) ^ (15 : Int).toNat = 1000000000000000 by decide +kernel]
              refine o_pow ⟨by decide, by decide +kernel⟩ ?_
              walk_at "ws_1"
              rw [show (10 : Int) ^ (15 : Int).toNat = 1000000000000000 by decide +kernel]
              refine ⟨x4, e, S, _, _, rfl, d4, ?_⟩
              walk_at "ws_1"
              refine w_iteb (fun c4 => ?_) (fun c4 => ?_)
              · walk_at "ws_1"
                simp only [Bool.not_eq_true'] at c4
                simp only [stampsD, stampD, c3, c4, Bool.false_and, Bool.and_false] at q1
                exact q1
              · simp only [Bool.not_eq_false'] at c4
                obtain ⟨i, rfl⟩ := within_int c3
                obtain ⟨j, rfl⟩ := within_int c4
                have := d3.intX
                subst this
                have := d4.intX
                subst this
                walk_at "ws_1"
                simp only [stampsD, stampD, c3, c4, Bool.true_and] at q1
                exact q1
      | _ => exact q0
    · refine w_iteT (by rw [hl]; simp; omega) ?_
      walk_at "ws_1"
      have : isOpD (.tuple ds) = false := by
        unfold isOpD
        split
        · rename_i e
          injection e with e
          subst e
          exact absurd rfl h4
        · rfl
      rw [this] at q0
      exact q0
  | _ => exact q0
end LB

open PySem PySem.Spec PyProof.Rows L2 LB
/-! the tactic: one step of a reading; many -/
local macro_rules | `(tactic| walk_at "w1_2") => `(tactic| first
  | with_reducible refine w_seq ?_ | with_reducible refine w_asg ?_ | with_reducible refine w_drop ?_ | with_reducible refine w_ret ?_ | with_reducible refine w_next ?_
  | with_reducible refine w_ifs ?_ | with_reducible refine w_forR1 ?_ | with_reducible refine w_forR2 ?_ | with_reducible refine w_forL ?_ | with_reducible refine w_forT ?_ | with_reducible refine w_name ?_ | with_reducible refine w_sub ?_ | with_reducible refine w_par ?_
  | with_reducible refine w_var (by with_unfolding_all rfl) ?_ | with_reducible refine w_c ?_ | with_reducible refine w_op ?_ | with_reducible refine w_un ?_
  | with_reducible refine w_test ?_ | with_reducible refine w_tb ?_ | with_reducible refine w_nil ?_ | with_reducible refine w_cons ?_ | with_reducible refine w_cb ?_ | with_reducible refine w_call ?_
  | with_reducible refine w_not ?_ | with_reducible refine w_and ?_ | with_reducible refine w_or ?_ | with_reducible refine w_andV ?_ | with_reducible refine w_orV ?_ | with_reducible refine w_notV ?_
  | with_reducible refine w_ife ?_ | with_reducible refine w_chain ?_ | with_reducible refine w_bm ?_ | with_reducible refine w_sl ?_ | with_reducible refine w_part ?_ | with_reducible refine w_nopart ?_
  | with_reducible refine w_exb ?_ | with_reducible refine w_exi ?_ | with_reducible refine w_ex2 ?_ | with_reducible refine w_ex3 ?_ | with_reducible refine w_lstrg ?_ | with_reducible refine w_rg2 ?_ | with_reducible refine w_rg1 ?_ | with_reducible refine w_exij ?_ | with_reducible refine w_tup ?_ | with_reducible refine w_lst ?_
  | with_reducible refine o_add ?_ | with_reducible refine o_sub ?_ | with_reducible refine o_neg ?_ | with_reducible refine o_lt ?_ | with_reducible refine o_le ?_ | with_reducible refine o_gt ?_ | with_reducible refine o_ge ?_
  | with_reducible refine o_ixL (by assumption) (by decide) (by with_unfolding_all rfl) ?_ | with_reducible refine o_ixT (by assumption) (by decide) (by with_unfolding_all rfl) ?_
  | with_reducible refine o_mod (by first | decide | omega) ?_ | with_reducible refine o_mul (by first | decide | omega) ?_ | with_reducible refine o_fdv (by first | decide | omega) (by first | decide | omega) ?_ | with_reducible refine o_setL (by assumption) (by decide) (by simp) ?_
  | with_reducible refine oo_addi ?_ | with_reducible refine oo_sub ?_ | with_reducible refine oo_neg ?_ | with_reducible refine w_rev ?_ | with_reducible refine w_m0 ?_
  | with_reducible refine w_par3 ?_ | with_reducible refine w_tyl (by assumption) ?_
  | with_reducible refine o_abs ?_ | with_reducible refine o_eqs (by with_unfolding_all rfl) ?_ | with_reducible refine o_nes (by with_unfolding_all rfl) ?_ | with_reducible refine o_max2 ?_ | with_reducible refine o_min2 ?_ | with_reducible refine o_isiX (by assumption) ?_ | with_reducible refine o_lenl (by assumption) ?_ | with_reducible refine o_lent (by assumption) ?_ | with_reducible refine o_int1b ?_)
local macro_rules | `(tactic| walk_at "ws_2") => `(tactic| repeat (first | walk_at "w1_2" | dsimp only [List.set_cons_zero, List.set_cons_succ]))
namespace LB
def t__law_draw_1 (K : PySem.W.Frag) : TS :=
  (tSeq (tAsg (tOp rModI (tOp (rIx K) (tVar 0) (tC (V.int 0))) (tVar 1)) (gName 2))
    (tSeq (tAsg (tOp rFdvI (tOp (rIx K) (tVar 0) (tC (V.int 0))) (tVar 1)) (gSub (tVar 0) (tC (V.int 0)) rSetL))
    (tRet (tVar 2))))

def t__law_draw (K : PySem.W.Frag) : TS :=
  (tSeq (tIfS (tTest (tOp rGtI (tOp (rIx K) (tVar 0) (tC (V.int 0))) (tC (V.int 0))))
    (t__law_draw_1 K) tNext)
    (tSeq (tAsg (tOp (rAddA K) (tOp (rIx K) (tVar 0) (tC (V.int 2))) (tC (V.int 1))) (gSub (tVar 0) (tC (V.int 2)) rSetL))
    (tSeq (tAsg (tOp (rIx K) (tLst (tCons (tC (V.int 2147483647)) (tCons (tC (V.int 2147483629)) (tCons (tC (V.int 2147483587)) (tCons (tC (V.int 2147483579)) (tCons (tC (V.int 2147483563)) tNil)))))) (tOp rModI (tOp (rIx K) (tVar 0) (tC (V.int 2))) (tC (V.int 5)))) (gName 3))
    (tSeq (tAsg (tOp rModI (tOp rPowI (tOp (rAddA K) (tOp (rAddA K) (tOp (rIx K) (tVar 0) (tC (V.int 1))) (tOp (rMulA K) (tOp (rMulA K) (tC (V.int 98321)) (tOp (rIx K) (tVar 0) (tC (V.int 2)))) (tOp (rIx K) (tVar 0) (tC (V.int 2))))) (tC (V.int 47))) (tC (V.int 3))) (tVar 3)) (gName 4))
    (tRet (tOp rModI (tOp rFdvI (tOp rModI (tOp (rMulA K) (tVar 4) (tOp (rAddA K) (tOp rModI (tVar 4) (tC (V.int 10007))) (tOp (rMulA K) (tC (V.int 89)) (tOp (rIx K) (tVar 0) (tC (V.int 2)))))) (tC (V.int 2305843009213693907))) (tC (V.int 83))) (tVar 1)))))))

theorem prime_at {z : Int} (h0 : 0 ≤ z) (h1 : z < 5) : ∃ q : Int, [V.int 2147483647, V.int 2147483629, V.int 2147483587, V.int 2147483579, V.int 2147483563][z.toNat]? = some (.int q) ∧ 2147483563 ≤ q ∧ q ≤ 2147483647 := by
  have h : z = 0 ∨ z = 1 ∨ z = 2 ∨ z = 3 ∨ z = 4 := by omega
  rcases h with rfl | rfl | rfl | rfl | rfl
  all_goals exact ⟨_, rfl, by decide, by decide⟩
theorem pow3_ok {x : Int} (h0 : 0 ≤ x) (h1 : x < 2 ^ 64) : CPowW x 3 := by
  refine ⟨by decide, ?_⟩
  have h := intBits_le_64 (k := x) (by omega) h1
  omega
theorem mix_ok {b c : Int} (hb : 0 ≤ b) (hb2 : b < 2305843009213693921) (hc : 0 ≤ c) (hc2 : c ≤ 8388608) : 0 ≤ b + 98321 * c * c + 47 ∧ b + 98321 * c * c + 47 < 2 ^ 64 := by
  have h1 : 0 ≤ c * c := Int.mul_nonneg hc hc
  have h2 : c * c ≤ 8388608 * 8388608 := Int.mul_le_mul hc2 hc2 hc (by decide)
  have h3 : 98321 * c * c = 98321 * (c * c) := Int.mul_assoc ..
  omega
theorem pure__law_draw {K : PySem.W.Frag} {vs : List V} {H : Hp} {Q : VK} {E : XK} (h : spDraw vs H Q E) : t__law_draw K { nx := fun _ H' => Q .non H', rt := Q } (start ["pot", "many", "digit", "prime", "mixed"] vs) H := by
  obtain ⟨p, m, n, rfl, ⟨a, b, c, hp, ha, hb, hc, hn⟩, h1, h2, q⟩ := h
  show t__law_draw K _ [some (.ref p), some (.int m), none, none, none] H
  unfold t__law_draw
  walk_at "ws_2"
  refine w_ite (fun ca => ?_) (fun ca => ?_)
  · walk_at "ws_2"
    unfold t__law_draw_1
    walk_at "ws_2"
    have f1 : 0 ≤ a.fdiv m := Int.fdiv_nonneg ha (by omega)
    have f2 : 0 ≤ a.fmod m := Int.fmod_nonneg_of_pos _ (by omega)
    have f3 : a.fmod m < m := Int.fmod_lt_of_pos _ (by omega)
    exact q _ _ (Keep.put (S := At p) rfl hp) ⟨_, _, _, upd_same, f1, hb, hc, by omega⟩ f2 f3
  · walk_at "ws_2"
    refine k_lst (by simp; decide) fun l H1 n1 => ?_
    have hp1 := n1.get (upd_same (H := H) (a := p) (o := .lst [.int a, .int b, .int (c + 1)]))
    walk_at "ws_2"
    have f5 : 0 ≤ (c + 1).fmod 5 := Int.fmod_nonneg_of_pos _ (by omega)
    have f6 : (c + 1).fmod 5 < 5 := Int.fmod_lt_of_pos _ (by omega)
    obtain ⟨z, ez, z1, z2⟩ := prime_at f5 f6
    refine o_ixL n1.at_ f5 ez ?_
    walk_at "ws_2"
    have mx := mix_ok hb.1 hb.2 (show 0 ≤ c + 1 by omega) (by omega)
    refine o_pow (pow3_ok mx.1 mx.2) ?_
    walk_at "ws_2"
    generalize (b + 98321 * (c + 1) * (c + 1) + 47) ^ (3 : Int).toNat = y
    have f7 : 0 ≤ y.fmod z := Int.fmod_nonneg_of_pos _ (by omega)
    have f8 : y.fmod z < z := Int.fmod_lt_of_pos _ (by omega)
    walk_at "ws_2"
    exact q _ _ ((Keep.put (S := At p) rfl hp).trans n1.keep) ⟨_, _, _, hp1, ha, hb, by omega, by omega⟩ (Int.fmod_nonneg_of_pos _ (by omega)) (Int.fmod_lt_of_pos _ (by omega))
def t__law_pot_1 (K : PySem.W.Frag) : TS :=
  (tSeq (tAsg (tOp (rMulA K) (tOp rModI (tCB rAbs (tCons (tVar 2) tNil)) (tOp rPowI (tOp rPowI (tC (V.int 10)) (tC (V.int 60))) (tC (V.int 5)))) (tCB rInt1 (tCons (tOp rGeI (tCB rAbs (tCons (tVar 2) tNil)) (tOp rPowI (tC (V.int 10)) (tC (V.int 18)))) tNil))) (gName 3))
    (tRet (tLst (tCons (tVar 3) (tCons (tOp rModI (tOp (rAddA K) (tOp (rAddA K) (tOp (rMulA K) (tOp rModI (tVar 2) (tC (V.int 2305843009213693951))) (tC (V.int 69767))) (tOp (rMulA K) (tOp (rMulA K) (tC (V.int 8123)) (tVar 1)) (tVar 1))) (tC (V.int 31))) (tC (V.int 2305843009213693921))) (tCons (tC (V.int 0)) tNil))))))

def t__law_pot (K : PySem.W.Frag) : TS :=
  (tSeq (tAsg (tOp (rAddA K) (tOp (rMulA K) (tC (V.int 19)) (tVar 1)) (tC (V.int 6))) (gName 2))
    (tSeq (tIfS (tTest (tOp rLtI (tVar 1) (tCB (rLen K) (tCons (tVar 0) tNil))))
    (tAsg (tOp (rIx K) (tVar 0) (tVar 1)) (gName 2)) tNext)
    (t__law_pot_1 K)))

def t__law_any (K : PySem.W.Frag) : TS :=
  (tRet (tOp (rIx K) (tVar 1) (tCall spDraw [] E0 (tCons (tVar 0) (tCons (tCB (rLen K) (tCons (tVar 1) tNil)) tNil)))))

def t__law_mixed_1 (K : PySem.W.Frag) : TS :=
  (tDrop (tBM K "list" rAppend (tVar 3) (tCons (tBM K "list" rPopA (tVar 2) (tCons (tCall spDraw [] E0 (tCons (tVar 0) (tCons (tCB (rLen K) (tCons (tVar 2) tNil)) tNil))) tNil)) tNil)))

def t__law_mixed (K : PySem.W.Frag) : TS :=
  (tSeq (tPar 2 3 (tCons (tCB (rListOf K) (tCons (tVar 1) tNil)) (tCons (tLst tNil) tNil)))
    (tSeq (tWhile (tTest (tOp (rNeA K) (tVar 2) (tLst tNil)))
    (t__law_mixed_1 K))
    (tRet (tVar 3))))

theorem pure__law_any {K : PySem.W.Frag} {vs : List V} {H : Hp} {Q : VK} {E : XK} (h : spAny K vs H Q E) : t__law_any K { nx := fun _ H' => Q .non H', rt := Q } (start ["pot", "items"] vs) H := by
  obtain ⟨p, a, xs, N, rfl, pt, hN, na, e, h1, h2, q⟩ := h
  show t__law_any K _ [some (.ref p), some (.ref a)] H
  unfold t__law_any
  walk_at "ws_2"
  have ln : LenV K (.ref a) H xs.length := by
    rcases e with e | e
    · exact lenl e
    · exact lent e
  refine o_len ln ?_
  walk_at "ws_2"
  refine o_draw pt hN (by omega) (by omega) fun H' k kp pt' k0 k1 => ?_
  have hk : k.toNat < xs.length := by omega
  have e2 : xs[k.toNat]? = some xs[k.toNat] := List.getElem?_eq_getElem hk
  rcases e with e | e
  · exact o_ixL (kp.all _ _ na e) k0 e2 (q H' _ _ e2 kp pt')
  · exact o_ixT (kp.tup _ _ e) k0 e2 (q H' _ _ e2 kp pt')
mutual
theorem dd_dp {K : PySem.W.Frag} {S : Addr → Prop} {H : Hp} : ∀ {v : V} {d : PyData}, DD S H v d → d.canLay0 = true → Dp K H v d
  | _, _, .non, _ => .non
  | _, _, .bl b, _ => .bl b
  | _, _, .int i, _ => .int i
  | _, _, .str x, _ => .str x
  | _, _, .tup e r, h => .tup (.inl (.inl e)) (dds_dp r (by simpa only [PyData.canLay0] using h))
  | _, _, .lst _ e r, h => .lst (.inl (.inl e)) (dds_dp r (by simpa only [PyData.canLay0] using h))
  | _, _, .dct _ e r, h => by simp only [PyData.canLay0] at h; cases h
theorem dds_dp {K : PySem.W.Frag} {S : Addr → Prop} {H : Hp} : ∀ {vs : List V} {ds : List PyData}, DDs S H vs ds → PyData.canLayAll0 ds = true → DpAll K H vs ds
  | _, _, .nil, _ => .nil
  | _, _, .cons h r, e => by
    simp only [PyData.canLayAll0, Bool.and_eq_true] at e
    exact .cons (dd_dp h e.1) (dds_dp r e.2)
end
theorem canLayAll0_of : ∀ {ds : List PyData}, (∀ d ∈ ds, d.canLay0 = true) → PyData.canLayAll0 ds = true
  | [], _ => by simp only [PyData.canLayAll0]
  | d :: ds, h => by
    simp only [PyData.canLayAll0, Bool.and_eq_true]
    exact ⟨h d List.mem_cons_self, canLayAll0_of fun e he => h e (List.mem_cons_of_mem _ he)⟩
theorem depthAll_of {k : Nat} : ∀ {ds : List PyData}, (∀ d ∈ ds, d.depth ≤ k) → PyData.depthAll ds ≤ k
  | [], _ => by simp only [PyData.depthAll]; omega
  | d :: ds, h => by
    simp only [PyData.depthAll]
    have h1 := h d List.mem_cons_self
    have h2 := depthAll_of fun e he => h e (List.mem_cons_of_mem _ he)
    omega
theorem shaped_list {ds : List PyData} (h : ∀ d ∈ ds, d.canLay0 = true ∧ d.depth ≤ 60) : SeqAt.shaped (.list ds) = true := by
  unfold SeqAt.shaped
  simp only [PyData.canLay0, PyData.depth, Bool.and_eq_true, decide_eq_true_eq]
  exact ⟨canLayAll0_of fun d hd => (h d hd).1, decide_eq_true (by have := depthAll_of (k := 60) fun d hd => (h d hd).2; omega)⟩
theorem shaped_tuple {ds : List PyData} (h : ∀ d ∈ ds, d.canLay0 = true ∧ d.depth ≤ 60) : SeqAt.shaped (.tuple ds) = true := by
  unfold SeqAt.shaped
  simp only [PyData.canLay0, PyData.depth, Bool.and_eq_true, decide_eq_true_eq]
  exact ⟨canLayAll0_of fun d hd => (h d hd).1, decide_eq_true (by have := depthAll_of (k := 60) fun d hd => (h d hd).2; omega)⟩
theorem dds_of_all {S : Addr → Prop} {H : Hp} {P : PyData → Prop} : ∀ {vs : List V}, (∀ v ∈ vs, ∃ d, DD S H v d ∧ P d) → ∃ ds, DDs S H vs ds ∧ ∀ d ∈ ds, P d
  | [], _ => ⟨[], .nil, fun _ h => by cases h⟩
  | v :: vs, h => by
    obtain ⟨d, h1, h2⟩ := h v List.mem_cons_self
    obtain ⟨ds, h3, h4⟩ := dds_of_all fun u hu => h u (List.mem_cons_of_mem _ hu)
    exact ⟨d :: ds, .cons h1 h3, fun e he => by
      rcases List.mem_cons.mp he with rfl | he
      · exact h2
      · exact h4 e he⟩
theorem all_of_dds {S : Addr → Prop} {H : Hp} {P : PyData → Prop} : ∀ {vs : List V} {ds : List PyData}, DDs S H vs ds → (∀ d ∈ ds, P d) → ∀ v ∈ vs, ∃ d, DD S H v d ∧ P d
  | _, _, .nil, _, v, h => by cases h
  | _, _, .cons h r, p, v, hv => by
    rcases List.mem_cons.mp hv with rfl | hv
    · exact ⟨_, h, p _ List.mem_cons_self⟩
    · exact all_of_dds r (fun d hd => p d (List.mem_cons_of_mem _ hd)) v hv
theorem o_neEmpty {K : PySem.W.Frag} {S : Addr → Prop} {H : Hp} {Q : VK} {a b : Addr} {xs : List V} (h : H a = some (.lst xs)) (hb : H b = some (.lst []))
    (hx : ∀ v ∈ xs, ∃ d, DD S H v d ∧ (d.canLay0 = true ∧ d.depth ≤ 60)) (q : Q (.bl (!xs.isEmpty)) H) : rNeA K (.ref a) (.ref b) H Q := by
  obtain ⟨ds, h1, h2⟩ := dds_of_all hx
  refine .inr ⟨.list ds, .list [], .lst (.inl (.inl h)) (dds_dp h1 (canLayAll0_of fun d hd => (h2 d hd).1)), .lst (.inl (.inl hb)) .nil, shaped_list h2, by decide, ?_⟩
  have e : PyData.eqv (.list ds) (.list []) = xs.isEmpty := by
    have := h1.length
    cases ds <;> cases xs <;> simp_all [PyData.eqv, PyData.eqvAll]
  rw [e]
  exact q
theorem perm_erase {α : Type} {xs ys ls : List α} {k : Nat} {y : α} (p : xs.Perm (ys ++ ls)) (e : ls[k]? = some y) : xs.Perm (ys ++ [y] ++ ls.eraseIdx k) := by
  obtain ⟨hk, e⟩ := List.getElem?_eq_some_iff.mp e
  subst e
  have h : ls.Perm (ls[k] :: ls.eraseIdx k) := by
    rw [List.eraseIdx_eq_take_drop_succ]
    have h1 : ls = ls.take k ++ ls[k] :: ls.drop (k + 1) := by
      rw [← List.drop_eq_getElem_cons hk, List.take_append_drop]
    have h2 : (ls.take k ++ ls[k] :: ls.drop (k + 1)).Perm (ls[k] :: (ls.take k ++ ls.drop (k + 1))) := List.perm_middle
    exact (List.Perm.of_eq h1).trans h2
  rw [List.append_assoc]
  exact p.trans ((List.Perm.refl ys).append h)
theorem pure__law_mixed {K : PySem.W.Frag} {vs : List V} {H : Hp} {Q : VK} {E : XK} (h : spMixed K vs H Q E) : t__law_mixed K { nx := fun _ H' => Q .non H', rt := Q } (start ["pot", "items", "left", "found"] vs) H := by
  obtain ⟨p, a, xs, ds, N, rfl, pt, hN, na, ea, hl, hd, hp, q⟩ := h
  show t__law_mixed K _ [some (.ref p), some (.ref a), none, none] H
  unfold t__law_mixed
  walk_at "ws_2"
  refine o_listof (xs := xs) (by rcases ea with e | e; exact .inl (.inl (.inl e)); exact .inr (.inl (.inl e))) fun l H1 n1 => ?_
  walk_at "ws_2"
  refine k_lst (by simp) fun f H2 n2 => ?_
  walk_at "ws_2"
  have hx : ∀ v ∈ xs, ∃ d, DD All H v d ∧ (d.canLay0 = true ∧ d.depth ≤ 60) := all_of_dds hd hp
  have k2 : Keep (At p) H H2 := n1.keep.trans n2.keep
  have lf : l ≠ f := n2.ne n1.at_
  have f0 : H f = none := by
    cases e : H f with
    | none => rfl
    | some o => have := n1.get e; rw [n2.no] at this; cases this
  have pl : p ≠ l := pt.ne n1.no
  have pf : p ≠ f := pt.ne f0
  refine ⟨fun m σ H3 => ∃ ls ys, σ = [some (.ref p), some (.ref a), some (.ref l), some (.ref f)] ∧ H3 l = some (.lst ls) ∧ H3 f = some (.lst ys) ∧ xs.Perm (ys ++ ls) ∧ m = ls.length ∧ Keep (At p) H H3 ∧ Pot H3 p (N - xs.length + ls.length),
    ⟨xs.length, xs, [], rfl, n2.get n1.at_, n2.at_, List.Perm.refl _, rfl, k2, ((pt.new n1).new n2).le (by omega)⟩, ?_⟩
  rintro m σ H3 ⟨ls, ys, rfl, el, ef, pm, rfl, k3, pt3⟩
  have hx3 : ∀ v ∈ ls, ∃ d, DD All H3 v d ∧ (d.canLay0 = true ∧ d.depth ≤ 60) := fun v hv => by
    obtain ⟨d, h1, h2⟩ := hx v (pm.mem_iff.mpr (List.mem_append_right _ hv))
    exact ⟨d, h1.keep (k3.mono fun _ _ => trivial), h2⟩
  have hlen : xs.length = ys.length + ls.length := by rw [pm.length_eq, List.length_append]
  walk_at "ws_2"
  refine k_lst (by simp) fun e H4 n4 => ?_
  refine o_neEmpty (S := All) (n4.get el) n4.at_ (fun v hv => by obtain ⟨d, h1, h2⟩ := hx3 v hv; exact ⟨d, h1.keep n4.keep, h2⟩) ?_
  walk_at "ws_2"
  cases hls : ls with
  | nil =>
    subst hls
    simp only [List.isEmpty_nil, Bool.not_true, Bool.false_eq_true, if_false]
    walk_at "ws_2"
    rw [List.append_nil] at pm
    exact q H4 f ys pm f0 (n4.get ef) (k3.trans n4.keep) (pt3.new n4)
  | cons y0 r =>
    simp only [List.isEmpty_cons, Bool.not_false, if_true]
    rw [← hls]
    have l1 : 1 ≤ ls.length := by rw [hls, List.length_cons]; omega
    refine ⟨fun σ' H' => ∃ m', m' < ls.length ∧ _, fun _ _ h => h, ?_⟩
    have ef4 := n4.get ef
    have el4 := n4.get el
    unfold t__law_mixed_1
    walk_at "ws_2"
    refine o_draw (pt3.new n4) (by omega) (by omega) (by omega) fun H5 k kp5 pt5 k0 k1 => ?_
    have el5 := kp5.all _ _ (fun z => pl z.symm) el4
    have ef5 := kp5.all _ _ (fun z => pf z.symm) ef4
    have hk : k.toNat < ls.length := by omega
    walk_at "ws_2"
    refine o_popat (y := ls[k.toNat]) el5 k0 k1 (by omega) (List.getElem?_eq_getElem hk) fun H6 p6 => ?_
    walk_at "ws_2"
    have ef6 := p6.get lf.symm ef5
    refine o_app ef6 (Nat.lt_of_le_of_lt (by omega : ys.length ≤ 1000) (by decide)) fun H7 p7 => ?_
    walk_at "ws_2"
    refine ⟨ls.length - 1, by omega, ls.eraseIdx k.toNat, ys ++ [ls[k.toNat]], rfl, p7.get lf p6.at_, p7.at_, perm_erase pm (List.getElem?_eq_getElem hk), ?_, ?_, ?_⟩
    · rw [List.length_eraseIdx, if_pos hk]
    · exact p7.keep0 (p6.keep0 ((k3.trans n4.keep).trans kp5) n1.no el5) f0 ef6
    · refine ((pt5.put p6 pl).put p7 pf).le ?_
      rw [List.length_eraseIdx, if_pos hk]
      omega
end LB

namespace LB
open PySem PySem.Spec PyProof.Rows L2
/-! ### operations and logs as data -/
structure Op where
  w : Bool
  v : Int
  b : Int
  e : Int
def kindS (w : Bool) : Str := if w = true then "write" else "read"
def Op.dat (o : Op) : PyData := .tuple [.str (kindS o.w), .int o.v, .int o.b, .int o.e]
def Op.ok (o : Op) : Prop := (o.w = true → 1 ≤ o.v) ∧ 0 ≤ o.v ∧ o.v ≤ 1000000000 ∧ -1000000000000000 ≤ o.b ∧ o.b ≤ o.e ∧ o.e ≤ 1000000000000000
/-- the values that are written, in sequence -/
def wr (ops : List Op) : List Int := (ops.filter (·.w)).map (·.v)
def LogOk (ops : List Op) : Prop := (∀ o ∈ ops, o.ok) ∧ (wr ops).Nodup
theorem wr_append (as bs : List Op) : wr (as ++ bs) = wr as ++ wr bs := by simp [wr]
theorem LogOk.perm {as bs : List Op} (p : as.Perm bs) (h : LogOk as) : LogOk bs :=
  ⟨fun o ho => h.1 o (p.mem_iff.mpr ho), (((p.filter _).map _).nodup_iff).mp h.2⟩
theorem perm_map_inv {α β : Type} {f : α → β} {l l' : List β} (p : l.Perm l') : ∀ {as : List α}, l = as.map f → ∃ bs, l' = bs.map f ∧ as.Perm bs := by
  induction p with
  | nil => intro as h; exact ⟨as, h, .refl _⟩
  | cons x _ ih =>
    intro as h
    cases as with
    | nil => cases h
    | cons a as =>
      rw [List.map_cons] at h
      injection h with h1 h2
      obtain ⟨bs, e, q⟩ := ih h2
      exact ⟨a :: bs, by rw [List.map_cons, e, h1], q.cons a⟩
  | swap x y l =>
    intro as h
    cases as with
    | nil => cases h
    | cons a as =>
      cases as with
      | nil => injection h with _ h; cases h
      | cons b as =>
        rw [List.map_cons, List.map_cons] at h
        injection h with h1 h
        injection h with h2 h3
        exact ⟨b :: a :: as, by rw [List.map_cons, List.map_cons, h1, h2, h3], .swap _ _ _⟩
  | trans _ _ ih1 ih2 =>
    intro as h
    obtain ⟨bs, e, q⟩ := ih1 h
    obtain ⟨cs, e2, q2⟩ := ih2 e
    exact ⟨cs, e2, q.trans q2⟩
theorem strOk_kind (w : Bool) : PyData.strOk (kindS w) = true := by cases w <;> decide +kernel
theorem Op.lay (o : Op) : o.dat.canLay0 = true ∧ o.dat.depth ≤ 60 := by
  refine ⟨?_, ?_⟩
  · unfold Op.dat
    simp only [PyData.canLay0, PyData.canLayAll0, strOk_kind, Bool.and_self, Bool.true_and]
  · unfold Op.dat
    simp only [PyData.depth, PyData.depthAll]
    decide
theorem kind_any {i : Nat} {v : V} (h : [V.str "write", V.str "read", V.str "read"][i]? = some v) : ∃ w, v = .str (kindS w) := by
  match i, h with
  | 0, h => exact ⟨true, (Option.some.inj h).symm⟩
  | 1, h => exact ⟨false, (Option.some.inj h).symm⟩
  | 2, h => exact ⟨false, (Option.some.inj h).symm⟩
theorem kind_eq (w : Bool) : decide (V.str (kindS w) = V.str "write") = w := by cases w <;> decide +kernel
abbrev Or2 (p f : Addr) : Addr → Prop := fun b => b = p ∨ b = f
theorem Keep.trans0 {S S' : Addr → Prop} {H0 H H1 : Hp} (a : Keep S H0 H) (b : Keep S' H H1) (h : ∀ c, S' c → S c ∨ H0 c = none) : Keep S H0 H1 :=
  ⟨fun c o n e => b.all c o (fun z => by
      rcases h c z with y | y
      · exact n y
      · rw [y] at e; cases e) (a.all c o n e), fun c xs e => b.tup c xs (a.tup c xs e)⟩
theorem DDs.snoc {S : Addr → Prop} {H : Hp} {vs : List V} {ds : List PyData} {v : V} {d : PyData} (h : DDs S H vs ds) (h2 : DD S H v d) : DDs S H (vs ++ [v]) (ds ++ [d]) := h.append (.cons h2 .nil)
/-- an operation just laid -/
theorem op_new {H H1 : Hp} {t : Addr} {w : Bool} {v b e : Int} (n : New H H1 t (.tup [.str (kindS w), .int v, .int b, .int e])) : DD All H1 (.ref t) (Op.dat ⟨w, v, b, e⟩) :=
  .tup n.at_ (.cons (.str _) (.cons (.int _) (.cons (.int _) (.cons (.int _) .nil))))
theorem inV_ints {ws : List Int} {z : Int} : inV (.int z) (ws.map V.int) = decide (z ∈ ws) := by
  unfold inV
  rw [List.any_map]
  induction ws with
  | nil => simp
  | cons w ws ih =>
    rw [List.any_cons, ih]
    show (eqV (.int w) (.int z) || _) = _
    have : eqV (.int w) (.int z) = decide (w = z) := by
      unfold eqV
      first
        | rfl
        | simp
    rw [this]
    by_cases h : w = z
    · subst h; simp
    · have h' : z ≠ w := fun e => h e.symm
      simp [h, h']
theorem flat_ints {ws : List Int} : (ws.map V.int).all flatV = true := by
  rw [List.all_map, List.all_eq_true]
  intro x _
  rfl
theorem o_niInts {K : PySem.W.Frag} {H : Hp} {Q : VK} {a : Addr} {ws : List Int} {z : Int} (e : H a = some (.lst (ws.map V.int))) (q : Q (.bl (!decide (z ∈ ws))) H) : rNiA K (.int z) (.ref a) H Q :=
  .inl ⟨a, _, rfl, .inl (.inl (.inl e)), rfl, flat_ints, by rw [if_pos rfl, inV_ints]; exact q⟩
/-! loops: the end D kept whole -/
def Looped (J : It) (g : TG) (tb : TS) (D : Ends) (σ : LB.St) (H1 : Hp) : Prop := ∃ W : Nat → Nat → LB.St → Hp → Prop, (∃ m, W 0 m σ H1) ∧ ∀ i m σ H, W i m σ H →
    (J.stop i H ∧ D.nx σ H) ∨ (J.go i H ∧ ∃ N : LB.St → Hp → Prop, (∀ σ' H', N σ' H' → ∃ m', m' < m ∧ W (i + 1) m' σ' H') ∧ ∀ x H', J.yld i H x H' → g x σ H' fun σ2 H2 => tb { D with nx := N, ct := N, bk := D.nx } σ2 H2)
def kR1 (g : TG) (tb : TS) (D : Ends) (σ : LB.St) : List V → Hp → Prop := fun vs H1 => ∃ j : Int, vs = [.int j] ∧ -(2 ^ 62) ≤ j ∧ j < 2 ^ 62 ∧ Looped (Itr 0 j.toNat) g tb D σ H1
def kR2 (g : TG) (tb : TS) (D : Ends) (σ : LB.St) : List V → Hp → Prop := fun vs H1 => ∃ i j : Int, vs = [.int i, .int j] ∧ (-(2 ^ 62) ≤ i ∧ i < 2 ^ 62 ∧ -(2 ^ 62) ≤ j ∧ j < 2 ^ 62) ∧ Looped (Itr i (j - i).toNat) g tb D σ H1
def kFl (K : PySem.W.Frag) (g : TG) (tb : TS) (D : Ends) (σ : LB.St) : VK := fun x H1 => ∃ a, x = .ref a ∧ (∃ xs, SqL K H1 a xs) ∧ Looped (Itl K a) g tb D σ H1
def kFt (K : PySem.W.Frag) (g : TG) (tb : TS) (D : Ends) (σ : LB.St) : VK := fun x H1 => ∃ a, x = .ref a ∧ (∃ xs, SqT K H1 a xs) ∧ Looped (Itt K a) g tb D σ H1
section
variable {K : PySem.W.Frag} {g : TG} {tb : TS} {D : Ends} {σ : LB.St} {H : Hp} {ta : TA} {te : TE}
theorem w_forR1 (h : ta σ H (kR1 g tb D σ)) : tFor (iRng1 ta) g tb D σ H := h
theorem w_forR2 (h : ta σ H (kR2 g tb D σ)) : tFor (iRng2 ta) g tb D σ H := h
theorem w_forL (h : te σ H (kFl K g tb D σ)) : tFor (iList K te) g tb D σ H := h
theorem w_forT (h : te σ H (kFt K g tb D σ)) : tFor (iTup K te) g tb D σ H := h
theorem w_forSl (h : te σ H (kFl K g tb D σ)) : tFor (iSeq K te) g tb D σ H := .inl h
theorem w_forSt (h : te σ H (kFt K g tb D σ)) : tFor (iSeq K te) g tb D σ H := .inr h
theorem k_R1 {j : Int} (h1 : -(2 ^ 62) ≤ j) (h2 : j < 2 ^ 62) (Pv : Nat → LB.St → Hp → Prop) (h0 : Pv 0 σ H)
    (hs : ∀ i σ H, i < j.toNat → Pv i σ H → g (.int (0 + i)) σ H fun σ2 H2 => tb { D with nx := Pv (i + 1), ct := Pv (i + 1), bk := D.nx } σ2 H2) (hd : ∀ σ H, Pv j.toNat σ H → D.nx σ H) : kR1 g tb D σ [.int j] H :=
  ⟨j, rfl, h1, h2, for_range Pv h0 hs hd⟩
theorem k_R2 {i j : Int} (h : -(2 ^ 62) ≤ i ∧ i < 2 ^ 62 ∧ -(2 ^ 62) ≤ j ∧ j < 2 ^ 62) (Pv : Nat → LB.St → Hp → Prop) (h0 : Pv 0 σ H)
    (hs : ∀ n σ H, n < (j - i).toNat → Pv n σ H → g (.int (i + n)) σ H fun σ2 H2 => tb { D with nx := Pv (n + 1), ct := Pv (n + 1), bk := D.nx } σ2 H2) (hd : ∀ σ H, Pv (j - i).toNat σ H → D.nx σ H) : kR2 g tb D σ [.int i, .int j] H :=
  ⟨i, j, rfl, h, for_range Pv h0 hs hd⟩
theorem k_Fl {a : Addr} {xs : List V} (e : H a = some (.lst xs)) (Pv : Nat → LB.St → Hp → Prop) (h0 : Pv 0 σ H) (hl : ∀ i σ H, i ≤ xs.length → Pv i σ H → H a = some (.lst xs))
    (hs : ∀ i x σ H, xs[i]? = some x → Pv i σ H → g x σ H fun σ2 H2 => tb { D with nx := Pv (i + 1), ct := Pv (i + 1), bk := D.nx } σ2 H2) (hd : ∀ σ H, Pv xs.length σ H → D.nx σ H) : kFl K g tb D σ (.ref a) H :=
  ⟨a, rfl, ⟨xs, .inl (.inl e)⟩, for_list Pv h0 (fun i σ H h1 h2 => .inl (.inl (hl i σ H h1 h2))) hs hd⟩
theorem k_Ft {a : Addr} {xs : List V} (e : H a = some (.tup xs)) (Pv : Nat → LB.St → Hp → Prop) (h0 : Pv 0 σ H) (hl : ∀ i σ H, i ≤ xs.length → Pv i σ H → H a = some (.tup xs))
    (hs : ∀ i x σ H, xs[i]? = some x → Pv i σ H → g x σ H fun σ2 H2 => tb { D with nx := Pv (i + 1), ct := Pv (i + 1), bk := D.nx } σ2 H2) (hd : ∀ σ H, Pv xs.length σ H → D.nx σ H) : kFt K g tb D σ (.ref a) H :=
  ⟨a, rfl, ⟨xs, .inl (.inl e)⟩, for_tup Pv h0 (fun i σ H h1 h2 => .inl (.inl (hl i σ H h1 h2))) hs hd⟩
end
/-- wild(pot, most, room): a log of drawn operations -/
def spWild : Sp := fun vs H Q _ => ∃ (p : Addr) (most room : Int) (N : Nat), vs = [.ref p, .int most, .int room] ∧ Pot H p N ∧ 0 ≤ most ∧ most ≤ 100 ∧ 1 ≤ room ∧ room ≤ 1000 ∧ 8 * most.toNat + 8 ≤ N ∧
  ∀ (H' : Hp) (t : Addr) (ops : List Op), Keep (At p) H H' → Pot H' p (N - (8 * most.toNat + 8)) → DD All H' (.ref t) (.tuple (ops.map Op.dat)) → LogOk ops → ops.length ≤ most.toNat →
    (∀ o ∈ ops, o.v ≤ 4 ∧ 0 ≤ o.b ∧ o.e ≤ 2 * room) → Q (.ref t) H'
theorem spWild_arity {vs : List V} {H : Hp} {Q : VK} {E : XK} (h : spWild vs H Q E) : vs.length = 3 := by
  obtain ⟨_, _, _, _, rfl, _⟩ := h
  rfl
/-- true(pot, many, off, step): a log made from a hidden order -/
def spTrue : Sp := fun vs H Q _ => ∃ (p : Addr) (many off step : Int) (N : Nat), vs = [.ref p, .int many, .int off, .int step] ∧ Pot H p N ∧ 0 ≤ many ∧ many ≤ 200 ∧ 0 ≤ off ∧ off ≤ 100 ∧ 0 ≤ step ∧ step ≤ 1000 ∧ 8 * many.toNat + 8 ≤ N ∧
  ∀ (H' : Hp) (t : Addr) (ops : List Op), Keep (At p) H H' → Pot H' p (N - (8 * many.toNat + 8)) → DD All H' (.ref t) (.tuple (ops.map Op.dat)) → LogOk ops → ops.length = many.toNat →
    (∀ o ∈ ops, o.v ≤ many ∧ -100000000 ≤ o.b ∧ o.e ≤ 100000100000000) → Q (.ref t) H'
theorem spTrue_arity {vs : List V} {H : Hp} {Q : VK} {E : XK} (h : spTrue vs H Q E) : vs.length = 4 := by
  obtain ⟨_, _, _, _, _, rfl, _⟩ := h
  rfl
end LB

open PySem PySem.Spec PyProof.Rows L2 LB
/-! the tactic: one step of a reading; many -/
local macro_rules | `(tactic| walk_at "w1_3") => `(tactic| first
  | with_reducible refine w_seq ?_ | with_reducible refine w_asg ?_ | with_reducible refine w_drop ?_ | with_reducible refine w_ret ?_ | with_reducible refine w_next ?_
  | with_reducible refine w_ifs ?_ | with_reducible refine w_forR1 ?_ | with_reducible refine w_forR2 ?_ | with_reducible refine w_forL ?_ | with_reducible refine w_forT ?_ | with_reducible refine w_name ?_ | with_reducible refine w_sub ?_ | with_reducible refine w_par ?_
  | with_reducible refine w_var (by with_unfolding_all rfl) ?_ | with_reducible refine w_c ?_ | with_reducible refine w_op ?_ | with_reducible refine w_un ?_
  | with_reducible refine w_test ?_ | with_reducible refine w_tb ?_ | with_reducible refine w_nil ?_ | with_reducible refine w_cons ?_ | with_reducible refine w_cb ?_ | with_reducible refine w_call ?_
  | with_reducible refine w_not ?_ | with_reducible refine w_and ?_ | with_reducible refine w_or ?_ | with_reducible refine w_andV ?_ | with_reducible refine w_orV ?_ | with_reducible refine w_notV ?_
  | with_reducible refine w_ife ?_ | with_reducible refine w_chain ?_ | with_reducible refine w_bm ?_ | with_reducible refine w_sl ?_ | with_reducible refine w_part ?_ | with_reducible refine w_nopart ?_
  | with_reducible refine w_exb ?_ | with_reducible refine w_exi ?_ | with_reducible refine w_ex2 ?_ | with_reducible refine w_ex3 ?_ | with_reducible refine w_lstrg ?_ | with_reducible refine w_rg2 ?_ | with_reducible refine w_rg1 ?_ | with_reducible refine w_exij ?_ | with_reducible refine w_tup ?_ | with_reducible refine w_lst ?_
  | with_reducible refine o_add ?_ | with_reducible refine o_sub ?_ | with_reducible refine o_neg ?_ | with_reducible refine o_lt ?_ | with_reducible refine o_le ?_ | with_reducible refine o_gt ?_ | with_reducible refine o_ge ?_
  | with_reducible refine o_ixL (by assumption) (by decide) (by with_unfolding_all rfl) ?_ | with_reducible refine o_ixT (by assumption) (by decide) (by with_unfolding_all rfl) ?_
  | with_reducible refine o_mod (by first | decide | omega) ?_ | with_reducible refine o_mul (by first | decide | omega) ?_ | with_reducible refine o_fdv (by first | decide | omega) (by first | decide | omega) ?_ | with_reducible refine o_setL (by assumption) (by decide) (by simp) ?_
  | with_reducible refine oo_addi ?_ | with_reducible refine oo_sub ?_ | with_reducible refine oo_neg ?_ | with_reducible refine w_rev ?_ | with_reducible refine w_m0 ?_
  | with_reducible refine w_par3 ?_ | with_reducible refine w_tyl (by assumption) ?_
  | with_reducible refine o_abs ?_ | with_reducible refine o_eqs (by with_unfolding_all rfl) ?_ | with_reducible refine o_nes (by with_unfolding_all rfl) ?_ | with_reducible refine o_max2 ?_ | with_reducible refine o_min2 ?_ | with_reducible refine o_isiX (by assumption) ?_ | with_reducible refine o_lenl (by assumption) ?_ | with_reducible refine o_lent (by assumption) ?_ | with_reducible refine o_int1b ?_)
local macro_rules | `(tactic| walk_at "ws_3") => `(tactic| repeat (first | walk_at "w1_3" | dsimp only [List.set_cons_zero, List.set_cons_succ]))
namespace LB
theorem pure__law_pot {K : PySem.W.Frag} {vs : List V} {H : Hp} {Q : VK} {E : XK} (h : spPot K vs H Q E) : t__law_pot K { nx := fun _ H' => Q .non H', rt := Q } (start ["script", "k", "cell", "own"] vs) H := by
  obtain ⟨a, k, ns, rfl, hS, k0, k1, hl, q⟩ := h
  show t__law_pot K _ [some (.ref a), some (.int k), none, none] H
  unfold t__law_pot
  walk_at "ws_3"
  refine o_lens hS ?_
  walk_at "ws_3"
  rw [List.length_map]
  refine w_ite (fun h => ?a) (fun h => ?b)
  case' a =>
    have hk : k.toNat < ns.length := by omega
    walk_at "ws_3"
    refine o_ixS hS k0 (v := .int ns[k.toNat]) (by rw [List.getElem?_map, List.getElem?_eq_getElem hk]; rfl) ?_
    walk_at "ws_3"
    generalize ns[k.toNat] = c
  case' b =>
    walk_at "ws_3"
    generalize 19 * k + 6 = c
  all_goals
    unfold t__law_pot_1
    walk_at "ws_3"
    refine o_pow ⟨by decide, by decide +kernel⟩ ?_
    walk_at "ws_3"
    refine o_pow ⟨by decide, by decide +kernel⟩ ?_
    walk_at "ws_3"
    have g0 : 0 ≤ (if c < 0 then -c else c) := by split <;> omega
    generalize (if c < 0 then -c else c) = ac at g0 ⊢
    have g1 : 0 ≤ ac.fmod (((10 : Int) ^ (60 : Int).toNat) ^ (5 : Int).toNat) := Int.fmod_nonneg_of_pos _ (by decide +kernel)
    generalize ac.fmod (((10 : Int) ^ (60 : Int).toNat) ^ (5 : Int).toNat) = own at g1 ⊢
    walk_at "ws_3"
    have f0 : 0 ≤ c.fmod 2305843009213693951 := Int.fmod_nonneg_of_pos _ (by omega)
    have f1 : c.fmod 2305843009213693951 < 2305843009213693951 := Int.fmod_lt_of_pos _ (by omega)
    refine o_pow ⟨by decide, by decide +kernel⟩ ?_
    walk_at "ws_3"
    refine o_mulR (by split <;> decide) ?_
    have g3 : 0 ≤ own * (if decide ((10 : Int) ^ (18 : Int).toNat ≤ ac) = true then (1 : Int) else 0) := Int.mul_nonneg g1 (by generalize decide ((10 : Int) ^ (18 : Int).toNat ≤ ac) = b; cases b <;> decide)
    generalize own * (if decide ((10 : Int) ^ (18 : Int).toNat ≤ ac) = true then (1 : Int) else 0) = oz at g3 ⊢
    walk_at "ws_3"
    refine k_lst (by simp; decide) fun p H1 n1 => ?_
    exact q H1 p n1.no n1.keep ⟨_, _, _, n1.at_, g3, ⟨Int.fmod_nonneg_of_pos _ (by omega), Int.fmod_lt_of_pos _ (by omega)⟩, by omega, by omega⟩
def t__law_wild_1 (K : PySem.W.Frag) : TS :=
  (tSeq (tDrop (tBM K "list" rAppend (tVar 4) (tCons (tVar 7) tNil)))
    (tDrop (tBM K "list" rAppend (tVar 3) (tCons (tTup (tCons (tC (V.str "write")) (tCons (tVar 7) (tCons (tVar 8) (tCons (tOp (rAddA K) (tVar 8) (tCall spDraw [] E0 (tCons (tVar 0) (tCons (tOp (rAddA K) (tOp rFdvI (tVar 2) (tC (V.int 2))) (tC (V.int 1))) tNil)))) tNil))))) tNil))))

def t__law_wild_2 (K : PySem.W.Frag) : TS :=
  (tSeq (tAsg (tOp (rAddA K) (tVar 4) (tLst (tCons (tC (V.int 0)) tNil))) (gName 9))
    (tSeq (tAsg (tCall (spAny K) [] E0 (tCons (tVar 0) (tCons (tOp (rAddA K) (tOp (rAddA K) (tVar 9) (tVar 9)) (tLst (tCons (tVar 7) tNil))) tNil))) (gName 7))
    (tDrop (tBM K "list" rAppend (tVar 3) (tCons (tTup (tCons (tC (V.str "read")) (tCons (tVar 7) (tCons (tVar 8) (tCons (tOp (rAddA K) (tVar 8) (tCall spDraw [] E0 (tCons (tVar 0) (tCons (tOp (rAddA K) (tOp rFdvI (tVar 2) (tC (V.int 2))) (tC (V.int 1))) tNil)))) tNil))))) tNil)))))

def t__law_wild_3 (K : PySem.W.Frag) : TS :=
  (tSeq (tPar 6 7 (tCons (tCall (spAny K) [] E0 (tCons (tVar 0) (tCons (tLst (tCons (tC (V.str "write")) (tCons (tC (V.str "read")) (tCons (tC (V.str "read")) tNil)))) tNil))) (tCons (tCall spDraw [] E0 (tCons (tVar 0) (tCons (tC (V.int 5)) tNil))) tNil)))
    (tSeq (tAsg (tCall spDraw [] E0 (tCons (tVar 0) (tCons (tVar 2) tNil))) (gName 8))
    (tIfS (tAnd (tTest (tOp (rEqA K) (tVar 6) (tC (V.str "write")))) (tAnd (tTest (tOp rGtI (tVar 7) (tC (V.int 0)))) (tTest (tOp (rNiA K) (tVar 7) (tVar 4)))))
    (t__law_wild_1 K) (t__law_wild_2 K))))

def t__law_wild (K : PySem.W.Frag) : TS :=
  (tSeq (tPar 3 4 (tCons (tLst tNil) (tCons (tLst tNil) tNil)))
    (tSeq (tFor (iRng1 (tCons (tCall spDraw [] E0 (tCons (tVar 0) (tCons (tOp (rAddA K) (tVar 1) (tC (V.int 1))) tNil))) tNil)) (gName 5)
    (t__law_wild_3 K))
    (tRet (tCB (rTupOf K) (tCons (tCall (spMixed K) [] E0 (tCons (tVar 0) (tCons (tVar 3) tNil))) tNil)))))


section
variable {K : PySem.W.Frag} {D : Ends} {p f wl : Addr} {most room wv bg : Int} {xs : List V} {ws : List Int} {x5 x6 x9 : Option V} {H : Hp} {M : Nat}
theorem wild_write (hp : Pot H p M) (hM : 1 ≤ M) (hf : H f = some (.lst xs)) (hw : H wl = some (.lst (ws.map V.int))) (pf : p ≠ f) (pw : p ≠ wl) (fw : f ≠ wl)
    (lx : xs.length ≤ 1000) (lw : ws.length ≤ 1000) (r0 : 1 ≤ room) (r1 : room ≤ 1000)
    (q : ∀ (H' : Hp) (e : Int) (t : Addr), Keep (fun b => b = p ∨ b = f ∨ b = wl) H H' → Pot H' p (M - 1) → H' f = some (.lst (xs ++ [.ref t])) → H' wl = some (.lst ((ws ++ [wv]).map V.int)) →
      DD All H' (.ref t) (Op.dat ⟨true, wv, bg, e⟩) → bg ≤ e → e ≤ bg + room → D.nx [some (.ref p), some (.int most), some (.int room), some (.ref f), some (.ref wl), x5, x6, some (.int wv), some (.int bg), x9] H') :
    t__law_wild_1 K D [some (.ref p), some (.int most), some (.int room), some (.ref f), some (.ref wl), x5, x6, some (.int wv), some (.int bg), x9] H := by
  unfold t__law_wild_1
  walk_at "ws_3"
  refine o_app hw (Nat.lt_of_le_of_lt (by rw [List.length_map]; omega : (ws.map V.int).length ≤ 1000) (by decide)) fun H1 p1 => ?_
  have hf1 := p1.get fw hf
  walk_at "ws_3"
  have d0 : 0 ≤ room.fdiv 2 := Int.fdiv_nonneg (by omega) (by omega)
  have d1 : room.fdiv 2 ≤ room := by rw [Int.fdiv_eq_ediv_of_nonneg _ (by omega)]; omega
  refine o_draw (hp.put p1 pw) hM (by omega) (by omega) fun H2 k kp2 pt2 k0 k1 => ?_
  have hf2 := kp2.all _ _ (fun z => pf z.symm) hf1
  have hw2 := kp2.all _ _ (fun z => pw z.symm) p1.at_
  walk_at "ws_3"
  refine k_tup (by simp; decide) fun t H3 n3 => ?_
  walk_at "ws_3"
  refine o_app (n3.get hf2) (Nat.lt_of_le_of_lt lx (by decide)) fun H4 p4 => ?_
  walk_at "ws_3"
  have ft : t ≠ f := (n3.ne hf2).symm
  refine q H4 _ t ?_ ((pt2.new n3).put p4 pf) p4.at_ ?_ ((op_new (w := true) n3).keep (p4.keep (S := All) trivial (n3.get hf2))) (by omega) (by omega)
  · exact (((p1.keep (S := fun b => b = p ∨ b = f ∨ b = wl) (.inr (.inr rfl)) hw).trans (kp2.mono fun b z => .inl z)).trans n3.keep).trans (p4.keep (.inr (.inl rfl)) (n3.get hf2))
  · rw [p4.off _ fw.symm, n3.get hw2, List.map_append]
    rfl
theorem wild_read (hp : Pot H p M) (hM : 2 ≤ M) (hf : H f = some (.lst xs)) (hw : H wl = some (.lst (ws.map V.int))) (pf : p ≠ f) (pw : p ≠ wl) (fw : f ≠ wl)
    (lx : xs.length ≤ 1000) (lw : ws.length ≤ 1000) (r0 : 1 ≤ room) (r1 : room ≤ 1000) (w0 : 0 ≤ wv) (w1 : wv ≤ 4) (hws : ∀ z ∈ ws, 0 ≤ z ∧ z ≤ 4)
    (q : ∀ (H' : Hp) (v e : Int) (t : Addr) (y9 : Option V), Keep (fun b => b = p ∨ b = f ∨ b = wl) H H' → Pot H' p (M - 2) → H' f = some (.lst (xs ++ [.ref t])) → H' wl = some (.lst (ws.map V.int)) →
      DD All H' (.ref t) (Op.dat ⟨false, v, bg, e⟩) → 0 ≤ v → v ≤ 4 → bg ≤ e → e ≤ bg + room → D.nx [some (.ref p), some (.int most), some (.int room), some (.ref f), some (.ref wl), x5, x6, some (.int v), some (.int bg), y9] H') :
    t__law_wild_2 K D [some (.ref p), some (.int most), some (.int room), some (.ref f), some (.ref wl), x5, x6, some (.int wv), some (.int bg), x9] H := by
  unfold t__law_wild_2
  walk_at "ws_3"
  refine k_lst (by simp; decide) fun z H1 n1 => ?_
  refine o_addL (n1.get hw) n1.at_ (by rw [List.length_map]; exact Nat.le_trans (by simp; omega : ws.length + [V.int 0].length ≤ 2000) (by decide)) fun s H2 n2 => ?_
  walk_at "ws_3"
  refine o_addL n2.at_ n2.at_ (by simp; exact Nat.le_trans (by omega : _ ≤ 5000) (by decide)) fun s2 H3 n3 => ?_
  walk_at "ws_3"
  refine k_lst (by simp; decide) fun z2 H4 n4 => ?_
  refine o_addL (n4.get n3.at_) n4.at_ (by simp; exact Nat.le_trans (by omega : _ ≤ 5000) (by decide)) fun s3 H5 n5 => ?_
  walk_at "ws_3"
  have hp5 := ((((hp.new n1).new n2).new n3).new n4).new n5
  have s3p : s3 ≠ p := fun e => ((((hp.new n1).new n2).new n3).new n4).ne n5.no e.symm
  refine o_any hp5 (by omega) s3p (.inl n5.at_) (by simp; omega) (by simp; omega) fun H6 i v ev kp6 pt6 => ?_
  have hv : ∃ z : Int, v = .int z ∧ 0 ≤ z ∧ z ≤ 4 := by
    have hm := List.mem_of_getElem? ev
    simp only [List.mem_append, List.mem_map, List.mem_cons, List.not_mem_nil, or_false] at hm
    rcases hm with ((⟨y, hy, rfl⟩ | rfl) | (⟨y, hy, rfl⟩ | rfl)) | rfl
    · exact ⟨y, rfl, hws y hy⟩
    · exact ⟨0, rfl, by omega⟩
    · exact ⟨y, rfl, hws y hy⟩
    · exact ⟨0, rfl, by omega⟩
    · exact ⟨wv, rfl, w0, w1⟩
  obtain ⟨z7, rfl, v0, v1⟩ := hv
  have hf6 := kp6.all _ _ (fun z => pf z.symm) (n5.get (n4.get (n3.get (n2.get (n1.get hf)))))
  have hw6 := kp6.all _ _ (fun z => pw z.symm) (n5.get (n4.get (n3.get (n2.get (n1.get hw)))))
  walk_at "ws_3"
  have d0 : 0 ≤ room.fdiv 2 := Int.fdiv_nonneg (by omega) (by omega)
  have d1 : room.fdiv 2 ≤ room := by rw [Int.fdiv_eq_ediv_of_nonneg _ (by omega)]; omega
  refine o_draw pt6 (by omega) (by omega) (by omega) fun H7 k kp7 pt7 k0 k1 => ?_
  have hf7 := kp7.all _ _ (fun z => pf z.symm) hf6
  have hw7 := kp7.all _ _ (fun z => pw z.symm) hw6
  walk_at "ws_3"
  refine k_tup (by simp; decide) fun t H8 n8 => ?_
  walk_at "ws_3"
  refine o_app (n8.get hf7) (Nat.lt_of_le_of_lt lx (by decide)) fun H9 p9 => ?_
  walk_at "ws_3"
  refine q H9 z7 _ t _ ?_ (((pt7.new n8).put p9 pf).le (by omega)) p9.at_ ?_ ((op_new (w := false) n8).keep (p9.keep (S := All) trivial (n8.get hf7))) v0 v1 (by omega) (by omega)
  · have k1 : Keep (fun b => b = p ∨ b = f ∨ b = wl) H H5 := n1.keep.trans (n2.keep.trans (n3.keep.trans (n4.keep.trans n5.keep)))
    exact (((k1.trans (kp6.mono fun b z => .inl z)).trans (kp7.mono fun b z => .inl z)).trans n8.keep).trans (p9.keep (.inr (.inl rfl)) (n8.get hf7))
  · rw [p9.off _ fw.symm, n8.get hw7]
end

def WildI (p f wl : Addr) (most room : Int) (H : Hp) (N i : Nat) (σ : LB.St) (H' : Hp) : Prop := ∃ (ops : List Op) (xs : List V) (x5 x6 x7 x8 x9 : Option V),
      σ = [some (.ref p), some (.int most), some (.int room), some (.ref f), some (.ref wl), x5, x6, x7, x8, x9] ∧ Keep (At p) H H' ∧ Pot H' p (N - 1 - 5 * i) ∧ H' f = some (.lst xs) ∧
      DDs All H' xs (ops.map Op.dat) ∧ H' wl = some (.lst ((wr ops).map V.int)) ∧ LogOk ops ∧ (∀ o ∈ ops, o.v ≤ 4 ∧ 0 ≤ o.b ∧ o.e ≤ 2 * room) ∧ ops.length = i
theorem pure__law_wild {K : PySem.W.Frag} {vs : List V} {H : Hp} {Q : VK} {E : XK} (h : spWild vs H Q E) : t__law_wild K { nx := fun _ H' => Q .non H', rt := Q } (start ["pot", "most", "room", "found", "written", "turn", "kind", "worth", "begin", "some"] vs) H := by
  obtain ⟨p, most, room, N, rfl, pt, m0, m1, r0, r1, hN, q⟩ := h
  show t__law_wild K _ [some (.ref p), some (.int most), some (.int room), none, none, none, none, none, none, none] H
  unfold t__law_wild
  walk_at "ws_3"
  refine k_lst (by simp) fun f H1 n1 => ?_
  walk_at "ws_3"
  refine k_lst (by simp) fun wl H2 n2 => ?_
  walk_at "ws_3"
  have pf : p ≠ f := pt.ne n1.no
  have pw : p ≠ wl := (pt.new n1).ne n2.no
  have fw : f ≠ wl := n2.ne n1.at_
  have w0 : H wl = none := by
    cases e : H wl with
    | none => rfl
    | some o => have := n1.get e; rw [n2.no] at this; cases this
  refine o_draw ((pt.new n1).new n2) (by omega) (by omega) (by omega) fun H3 k kp3 pt3 k0 k1 => ?_
  walk_at "ws_3"
  refine k_R1 (by omega) (by omega) (WildI p f wl most room H N) ?_ ?_ ?_
  · refine ⟨[], [], _, _, _, _, _, rfl, (n1.keep.trans n2.keep).trans kp3, pt3, kp3.all _ _ (fun z => pf z.symm) (n2.get n1.at_), .nil, kp3.all _ _ (fun z => pw z.symm) n2.at_, ⟨fun o ho => by (cases ho), List.Pairwise.nil⟩, fun o ho => by (cases ho), rfl⟩
  · rintro i σ H4 hi ⟨ops, xs, x5, x6, x7, x8, x9, rfl, kp, pt4, hf, hd, hw, lo, ho, hl⟩
    have hlx : xs.length = i := by rw [hd.length, List.length_map, hl]
    have hlw : (wr ops).length ≤ i := by
      unfold wr
      rw [List.length_map]
      exact Nat.le_trans (List.length_filter_le _ _) (by omega)
    have hwv : ∀ z ∈ wr ops, 0 ≤ z ∧ z ≤ 4 := fun z hz => by
      obtain ⟨o, h1, rfl⟩ := List.mem_map.mp hz
      have h2 := (List.mem_filter.mp h1).1
      exact ⟨(lo.1 o h2).2.1, (ho o h2).1⟩
    walk_at "ws_3"
    unfold t__law_wild_3
    walk_at "ws_3"
    refine k_lst (by simp; decide) fun z H5 n5 => ?_
    walk_at "ws_3"
    refine o_any (pt4.new n5) (by omega) (fun e => (pt4.ne n5.no) e.symm) (.inl n5.at_) (by simp) (by simp) fun H6 j v ev kp6 pt6 => ?_
    obtain ⟨w, rfl⟩ := kind_any ev
    walk_at "ws_3"
    refine o_draw pt6 (by omega) (by omega) (by omega) fun H7 wv kp7 pt7 w0' w1' => ?_
    walk_at "ws_3"
    refine o_draw pt7 (by omega) (by omega) (by omega) fun H8 bg kp8 pt8 b0 b1 => ?_
    have k48 : Keep (At p) H4 H8 := ((n5.keep (S := At p)).trans kp6).trans (kp7.trans kp8)
    have hf8 := k48.all _ _ (fun z => pf z.symm) hf
    have hw8 := k48.all _ _ (fun z => pw z.symm) hw
    have hd8 := hd.keep (k48.mono fun _ _ => trivial)
    walk_at "ws_3"
    rw [kind_eq]
    -- the two ends of a turn
    have rd : ∀ D : Ends, (∀ σ H', WildI p f wl most room H N (i + 1) σ H' → D.nx σ H') → t__law_wild_2 K D [some (.ref p), some (.int most), some (.int room), some (.ref f), some (.ref wl), some (.int (0 + i)), some (.str (kindS w)), some (.int wv), some (.int bg), x9] H8 := by
      intro D hD
      refine wild_read (M := N - 1 - 5 * i - 3) (pt8.le (by omega)) (by omega) hf8 hw8 pf pw fw (by omega) (by omega) r0 r1 w0' (by omega) hwv fun H9 v e t y9 k9 pt9 f9 wl9 d9 v0 v1 e0 e1 => ?_
      refine hD _ _ ⟨ops ++ [⟨false, v, bg, e⟩], xs ++ [.ref t], _, _, _, _, _, rfl, (kp.trans k48).trans0 k9 (fun c hc => ?_), pt9.le (by omega), f9, ?_, ?_, ?_, ?_, ?_⟩
      · rcases hc with rfl | rfl | rfl
        · exact .inl rfl
        · exact .inr n1.no
        · exact .inr w0
      · rw [List.map_append]
        exact (hd8.keep (k9.mono fun _ _ => trivial)).snoc d9
      · rw [wr_append]
        show H9 wl = some (HO.lst ((wr ops ++ []).map V.int))
        rw [List.append_nil]
        exact wl9
      · refine ⟨fun o ho => ?_, ?_⟩
        · rcases List.mem_append.mp ho with ho | ho
          · exact lo.1 o ho
          · simp only [List.mem_cons, List.not_mem_nil, or_false] at ho
            subst ho
            exact ⟨fun z => by (cases z), v0, by show v ≤ _; omega, by show _ ≤ bg; omega, e0, by show e ≤ _; omega⟩
        · rw [wr_append]
          show (wr ops ++ []).Nodup
          rw [List.append_nil]
          exact lo.2
      · intro o ho'
        rcases List.mem_append.mp ho' with ho' | ho'
        · exact ho o ho'
        · simp only [List.mem_cons, List.not_mem_nil, or_false] at ho'
          subst ho'
          exact ⟨v1, b0, by show e ≤ _; omega⟩
      · rw [List.length_append, hl]
        rfl
    refine w_iteb (fun hwt => ?_) (fun _ => w_iteF rfl (rd _ fun _ _ h => h))
    subst hwt
    walk_at "ws_3"
    refine w_ite (fun hp0 => ?_) (fun _ => w_iteF rfl (rd _ fun _ _ h => h))
    walk_at "ws_3"
    refine o_niInts hw8 ?_
    walk_at "ws_3"
    by_cases hin : wv ∈ wr ops
    · rw [decide_eq_true hin]
      exact w_iteF rfl (rd _ fun _ _ h => h)
    · rw [decide_eq_false hin]
      refine w_iteT rfl ?_
      refine wild_write (M := N - 1 - 5 * i - 3) (pt8.le (by omega)) (by omega) hf8 hw8 pf pw fw (by omega) (by omega) r0 r1 fun H9 e t k9 pt9 f9 wl9 d9 e0 e1 => ?_
      have hwr : wr (ops ++ [⟨true, wv, bg, e⟩]) = wr ops ++ [wv] := by rw [wr_append]; rfl
      refine ⟨ops ++ [⟨true, wv, bg, e⟩], xs ++ [.ref t], _, _, _, _, _, rfl, (kp.trans k48).trans0 k9 (fun c hc => ?_), pt9.le (by omega), f9, ?_, ?_, ?_, ?_, ?_⟩
      · rcases hc with rfl | rfl | rfl
        · exact .inl rfl
        · exact .inr n1.no
        · exact .inr w0
      · rw [List.map_append]
        exact (hd8.keep (k9.mono fun _ _ => trivial)).snoc d9
      · rw [hwr]
        exact wl9
      · refine ⟨fun o ho => ?_, ?_⟩
        · rcases List.mem_append.mp ho with ho | ho
          · exact lo.1 o ho
          · simp only [List.mem_cons, List.not_mem_nil, or_false] at ho
            subst ho
            exact ⟨fun _ => by show 1 ≤ wv; omega, w0', by show wv ≤ _; omega, by show _ ≤ bg; omega, e0, by show e ≤ _; omega⟩
        · rw [hwr]
          exact List.nodup_append.mpr ⟨lo.2, by simp, fun a ha b hb => by simp at hb; subst hb; exact fun z => hin (z ▸ ha)⟩
      · intro o ho'
        rcases List.mem_append.mp ho' with ho' | ho'
        · exact ho o ho'
        · simp only [List.mem_cons, List.not_mem_nil, or_false] at ho'
          subst ho'
          exact ⟨by show wv ≤ 4; omega, b0, by show e ≤ _; omega⟩
      · rw [List.length_append, hl]
        rfl
  · rintro σ H4 ⟨ops, xs, x5, x6, x7, x8, x9, rfl, kp, pt4, hf, hd, hw, lo, ho, hl⟩
    have hlx : xs.length = k.toNat := by rw [hd.length, List.length_map, hl]
    walk_at "ws_3"
    refine ⟨p, f, xs, ops.map Op.dat, _, rfl, pt4, by omega, pf.symm, .inl hf, by omega, hd, fun d hd => ?_, fun H5 g ys pm g0 hg kp5 pt5 => ?_⟩
    · obtain ⟨o, _, rfl⟩ := List.mem_map.mp hd
      exact o.lay
    · walk_at "ws_3"
      refine o_tupof hg fun t H6 n6 => ?_
      obtain ⟨es, pe, de⟩ := hd.perm pm
      obtain ⟨bs, eb, pb⟩ := perm_map_inv pe rfl
      subst eb
      refine q H6 t bs ((kp.trans kp5).trans n6.keep) ((pt5.new n6).le (by omega)) (.tup n6.at_ ((de.keep (kp5.mono fun _ _ => trivial)).keep n6.keep)) (lo.perm pb) ?_ fun o ho' => ho o (pb.mem_iff.mpr ho')
      rw [← pb.length_eq, hl]
      omega
end LB

open PySem PySem.Spec PyProof.Rows L2 LB
/-! the tactic: one step of a reading; many -/
local macro_rules | `(tactic| walk_at "w1_4") => `(tactic| first
  | with_reducible refine w_seq ?_ | with_reducible refine w_asg ?_ | with_reducible refine w_drop ?_ | with_reducible refine w_ret ?_ | with_reducible refine w_next ?_
  | with_reducible refine w_ifs ?_ | with_reducible refine w_forR1 ?_ | with_reducible refine w_forR2 ?_ | with_reducible refine w_forL ?_ | with_reducible refine w_forT ?_ | with_reducible refine w_name ?_ | with_reducible refine w_sub ?_ | with_reducible refine w_par ?_
  | with_reducible refine w_var (by with_unfolding_all rfl) ?_ | with_reducible refine w_c ?_ | with_reducible refine w_op ?_ | with_reducible refine w_un ?_
  | with_reducible refine w_test ?_ | with_reducible refine w_tb ?_ | with_reducible refine w_nil ?_ | with_reducible refine w_cons ?_ | with_reducible refine w_cb ?_ | with_reducible refine w_call ?_
  | with_reducible refine w_not ?_ | with_reducible refine w_and ?_ | with_reducible refine w_or ?_ | with_reducible refine w_andV ?_ | with_reducible refine w_orV ?_ | with_reducible refine w_notV ?_
  | with_reducible refine w_ife ?_ | with_reducible refine w_chain ?_ | with_reducible refine w_bm ?_ | with_reducible refine w_sl ?_ | with_reducible refine w_part ?_ | with_reducible refine w_nopart ?_
  | with_reducible refine w_exb ?_ | with_reducible refine w_exi ?_ | with_reducible refine w_ex2 ?_ | with_reducible refine w_ex3 ?_ | with_reducible refine w_lstrg ?_ | with_reducible refine w_rg2 ?_ | with_reducible refine w_rg1 ?_ | with_reducible refine w_exij ?_ | with_reducible refine w_tup ?_ | with_reducible refine w_lst ?_
  | with_reducible refine o_add ?_ | with_reducible refine o_sub ?_ | with_reducible refine o_neg ?_ | with_reducible refine o_lt ?_ | with_reducible refine o_le ?_ | with_reducible refine o_gt ?_ | with_reducible refine o_ge ?_
  | with_reducible refine o_ixL (by assumption) (by decide) (by with_unfolding_all rfl) ?_ | with_reducible refine o_ixT (by assumption) (by decide) (by with_unfolding_all rfl) ?_
  | with_reducible refine o_mod (by first | decide | omega) ?_ | with_reducible refine o_mul (by first | decide | omega) ?_ | with_reducible refine o_fdv (by first | decide | omega) (by first | decide | omega) ?_ | with_reducible refine o_setL (by assumption) (by decide) (by simp) ?_
  | with_reducible refine oo_addi ?_ | with_reducible refine oo_sub ?_ | with_reducible refine oo_neg ?_ | with_reducible refine w_rev ?_ | with_reducible refine w_m0 ?_
  | with_reducible refine w_par3 ?_ | with_reducible refine w_tyl (by assumption) ?_
  | with_reducible refine o_abs ?_ | with_reducible refine o_eqs (by with_unfolding_all rfl) ?_ | with_reducible refine o_nes (by with_unfolding_all rfl) ?_ | with_reducible refine o_max2 ?_ | with_reducible refine o_min2 ?_ | with_reducible refine o_isiX (by assumption) ?_ | with_reducible refine o_lenl (by assumption) ?_ | with_reducible refine o_lent (by assumption) ?_ | with_reducible refine o_int1b ?_)
local macro_rules | `(tactic| walk_at "ws_4") => `(tactic| repeat (first | walk_at "w1_4" | dsimp only [List.set_cons_zero, List.set_cons_succ]))
namespace LB
def t__law_true_1 (K : PySem.W.Frag) : TS :=
  (tSeq (tAsg (tTup (tCons (tOp rSubI (tVar 6) (tCall spDraw [] E0 (tCons (tVar 0) (tCons (tOp (rAddA K) (tVar 3) (tC (V.int 1))) tNil)))) (tCons (tOp (rAddA K) (tVar 6) (tCall spDraw [] E0 (tCons (tVar 0) (tCons (tOp (rAddA K) (tVar 3) (tC (V.int 1))) tNil)))) tNil))) (gName 10))
    (tSeq (tAsg (tOp (rAddA K) (tOp rSubI (tOp (rIx K) (tVar 10) (tC (V.int 0))) (tVar 2)) (tCall spDraw [] E0 (tCons (tVar 0) (tCons (tOp (rAddA K) (tOp (rMulA K) (tC (V.int 2)) (tVar 2)) (tC (V.int 1))) tNil)))) (gName 11))
    (tSeq (tAsg (tOp (rAddA K) (tOp rSubI (tOp (rIx K) (tVar 10) (tC (V.int 1))) (tVar 2)) (tCall spDraw [] E0 (tCons (tVar 0) (tCons (tOp (rAddA K) (tOp (rMulA K) (tC (V.int 2)) (tVar 2)) (tC (V.int 1))) tNil)))) (gName 12))
    (tDrop (tBM K "list" rAppend (tVar 4) (tCons (tTup (tCons (tVar 9) (tCons (tVar 5) (tCons (tCB rMin2 (tCons (tVar 11) (tCons (tVar 12) tNil))) (tCons (tCB rMax2 (tCons (tVar 11) (tCons (tVar 12) tNil))) tNil))))) tNil))))))

def t__law_true_2 (K : PySem.W.Frag) : TS :=
  (tSeq (tAsg (tOp (rAddA K) (tVar 6) (tCall spDraw [] E0 (tCons (tVar 0) (tCons (tOp (rAddA K) (tVar 3) (tC (V.int 1))) tNil)))) (gName 6))
    (tSeq (tAsg (tCall (spAny K) [] E0 (tCons (tVar 0) (tCons (tLst (tCons (tC (V.str "write")) (tCons (tC (V.str "read")) (tCons (tC (V.str "read")) tNil)))) tNil))) (gName 9))
    (tSeq (tIfS (tTest (tOp (rEqA K) (tVar 9) (tC (V.str "write"))))
    (tAsg (tOp (rIx K) (tVar 7) (tVar 8)) (gName 5)) tNext)
    (t__law_true_1 K))))

def t__law_true (K : PySem.W.Frag) : TS :=
  (tSeq (tPar3 4 5 6 (tCons (tLst tNil) (tCons (tC (V.int 0)) (tCons (tCall (spAny K) [] E0 (tCons (tVar 0) (tCons (tLst (tCons (tC (V.int 0)) (tCons (tUn rNegI (tC (V.int 7))) (tCons (tOp rPowI (tC (V.int 10)) (tC (V.int 14))) tNil)))) tNil))) tNil))))
    (tSeq (tAsg (tCall (spMixed K) [] E0 (tCons (tVar 0) (tCons (tLstRg (tRg2 (tC (V.int 1)) (tOp (rAddA K) (tVar 1) (tC (V.int 1))))) tNil))) (gName 7))
    (tSeq (tFor (iRng1 (tCons (tVar 1) tNil)) (gName 8)
    (t__law_true_2 K))
    (tRet (tCB (rTupOf K) (tCons (tCall (spMixed K) [] E0 (tCons (tVar 0) (tCons (tVar 4) tNil))) tNil))))))

def TrueI (p f g : Addr) (many off step : Int) (ns : List Int) (H : Hp) (N i : Nat) (σ : LB.St) (H' : Hp) : Prop := ∃ (ops : List Op) (xs : List V) (wv tm : Int) (x8 x9 x10 x11 x12 : Option V),
      σ = [some (.ref p), some (.int many), some (.int off), some (.int step), some (.ref f), some (.int wv), some (.int tm), some (.ref g), x8, x9, x10, x11, x12] ∧ Keep (At p) H H' ∧ Pot H' p (N - 6 * i) ∧ H' f = some (.lst xs) ∧
      DDs All H' xs (ops.map Op.dat) ∧ H' g = some (.lst (ns.map V.int)) ∧ LogOk ops ∧ (∀ z ∈ wr ops, ∃ j, j < i ∧ ns[j]? = some z) ∧ (∀ o ∈ ops, o.v ≤ many ∧ -100000000 ≤ o.b ∧ o.e ≤ 100000100000000) ∧ ops.length = i ∧ 0 ≤ wv ∧ wv ≤ many ∧ -7 ≤ tm ∧ tm ≤ 100000000000000 + i * step
theorem rg_map (n : Nat) : rgV 1 ((n : Int) + 1) = ((List.range n).map fun i => (1 : Int) + (i : Nat)).map V.int := by
  unfold rgV
  rw [List.map_map, show ((n : Int) + 1 - 1).toNat = n by omega]
  rfl
theorem range_nodup (n : Nat) : ((List.range n).map fun i => (1 : Int) + (i : Nat)).Nodup := by
  refine List.Pairwise.map _ (fun a b h e => h ?_) (List.nodup_range)
  have e : (1 : Int) + (a : Nat) = 1 + (b : Nat) := e
  omega
theorem ints_dds {S : Addr → Prop} {H : Hp} : ∀ ns : List Int, DDs S H (ns.map V.int) (ns.map PyData.int)
  | [] => .nil
  | n :: ns => .cons (.int n) (ints_dds ns)
theorem start_any {i : Nat} {v : V} (h : [V.int 0, V.int (-7), V.int 100000000000000][i]? = some v) : ∃ z : Int, v = .int z ∧ -7 ≤ z ∧ z ≤ 100000000000000 := by
  match i, h with
  | 0, h => exact ⟨0, (Option.some.inj h).symm, by omega, by omega⟩
  | 1, h => exact ⟨-7, (Option.some.inj h).symm, by omega, by omega⟩
  | 2, h => exact ⟨_, (Option.some.inj h).symm, by omega, by omega⟩
theorem perm_ints {ns : List Int} {ys : List V} (p : (ns.map V.int).Perm ys) : ∃ ms : List Int, ys = ms.map V.int ∧ ns.Perm ms := perm_map_inv p rfl
theorem pure__law_true {K : PySem.W.Frag} {vs : List V} {H : Hp} {Q : VK} {E : XK} (h : spTrue vs H Q E) : t__law_true K { nx := fun _ H' => Q .non H', rt := Q } (start ["pot", "many", "off", "step", "found", "worth", "time", "names", "turn", "kind", "ends", "begin", "end"] vs) H := by
  obtain ⟨p, many, off, step, N, rfl, pt, m0, m1, o0, o1, s0, s1, hN, q⟩ := h
  show t__law_true K _ [some (.ref p), some (.int many), some (.int off), some (.int step), none, none, none, none, none, none, none, none, none] H
  unfold t__law_true
  walk_at "ws_4"
  refine k_lst (by simp) fun f H1 n1 => ?_
  walk_at "ws_4"
  refine o_pow ⟨by decide, by decide +kernel⟩ ?_
  walk_at "ws_4"
  rw [show (10 : Int) ^ (14 : Int).toNat = 100000000000000 by decide +kernel]
  refine k_lst (by simp; decide) fun z0 H2 n2 => ?_
  walk_at "ws_4"
  have pf : p ≠ f := pt.ne n1.no
  refine o_any ((pt.new n1).new n2) (by omega) (fun e => ((pt.new n1).ne n2.no) e.symm) (.inl n2.at_) (by simp) (by simp) fun H3 j v ev kp3 pt3 => ?_
  obtain ⟨tm, rfl, t0, t1⟩ := start_any ev
  walk_at "ws_4"
  have hf3 := kp3.all _ _ (fun z => pf z.symm) (n2.get n1.at_)
  obtain ⟨n, rfl⟩ := Int.eq_ofNat_of_zero_le m0
  refine k_lr (RgOk.of_le (by omega) (by omega) (by omega) (by omega)) fun l H4 n4 => ?_
  walk_at "ws_4"
  rw [rg_map] at n4
  have pt4 := pt3.new n4
  refine ⟨p, l, _, ((List.range n).map fun i => (1 : Int) + (i : Nat)).map PyData.int, _, rfl, pt4, by simp; omega, fun e => (pt3.ne n4.no) e.symm, .inl n4.at_, by simp; omega, ints_dds _, fun d hd => ?_, fun H5 g ys pm g0 hg kp5 pt5 => ?_⟩
  · obtain ⟨z, _, rfl⟩ := List.mem_map.mp hd
    exact ⟨by simp only [PyData.canLay0], by simp only [PyData.depth]; omega⟩
  obtain ⟨ns, rfl, pn⟩ := perm_ints pm
  have hnd : ns.Nodup := pn.nodup_iff.mp (range_nodup n)
  have hnb : ∀ z ∈ ns, 1 ≤ z ∧ z ≤ n := fun z hz => by
    obtain ⟨i, hi, rfl⟩ := List.mem_map.mp (pn.mem_iff.mpr hz)
    have := List.mem_range.mp hi
    omega
  have hnl : ns.length = n := by rw [← pn.length_eq, List.length_map, List.length_range]
  simp only [List.length_map, List.length_range] at pt5
  have hf5 := kp5.all _ _ (fun z => pf z.symm) (n4.get hf3)
  have k05 : Keep (At p) H H5 := ((n1.keep.trans n2.keep).trans kp3).trans ((n4.keep).trans kp5)
  have pg : p ≠ g := pt4.ne g0
  have fg : f ≠ g := fun e => by
    have := n4.get hf3
    rw [e, g0] at this
    cases this
  have g0' : H g = none := by
    cases e : H g with
    | none => rfl
    | some o =>
      have e4 : H4 g = some o := n4.get (kp3.all _ _ (fun z => pg z.symm) (n2.get (n1.get e)))
      rw [g0] at e4
      cases e4
  walk_at "ws_4"
  refine k_R1 (by omega) (by omega) (TrueI p f g n off step ns H (N - 1 - n)) ?_ ?_ ?_
  · exact ⟨[], [], 0, tm, _, _, _, _, _, rfl, k05, pt5, hf5, .nil, hg, ⟨fun o ho => by (cases ho), List.Pairwise.nil⟩, fun z hz => by (cases hz), fun o ho => by (cases ho), rfl, by omega, by omega, t0, by omega⟩
  · rintro i σ H6 hi ⟨ops, xs, wv, tm, x8, x9, x10, x11, x12, rfl, kp, pt6, hf, hd, hgg, lo, hin, ho, hl, w0, w1, t0, t1⟩
    have hi' : i < n := by omega
    have hlx : xs.length = i := by rw [hd.length, List.length_map, hl]
    have hstep : (i : Int) * step ≤ 200 * 1000 := Int.mul_le_mul (by omega) s1 s0 (by omega)
    have hstep1 : ((i + 1 : Nat) : Int) * step = i * step + step := by
      have : ((i + 1 : Nat) : Int) = (i : Int) + 1 := by omega
      rw [this, Int.add_mul, Int.one_mul]
    walk_at "ws_4"
    unfold t__law_true_2
    walk_at "ws_4"
    refine o_draw pt6 (by omega) (by omega) (by omega) fun H7 k kp7 pt7 k0 k1 => ?_
    walk_at "ws_4"
    refine k_lst (by simp; decide) fun z H8 n8 => ?_
    walk_at "ws_4"
    refine o_any (pt7.new n8) (by omega) (fun e => (pt7.ne n8.no) e.symm) (.inl n8.at_) (by simp) (by simp) fun H9 j v ev kp9 pt9 => ?_
    obtain ⟨w, rfl⟩ := kind_any ev
    have k69 : Keep (At p) H6 H9 := (kp7.trans n8.keep).trans kp9
    have hf9 := k69.all _ _ (fun z => pf z.symm) hf
    have hg9 := k69.all _ _ (fun z => pg z.symm) hgg
    have hd9 := hd.keep (k69.mono fun _ _ => trivial)
    walk_at "ws_4"
    rw [kind_eq]
    -- the value of the operation, then the rest of the turn
    have hni : ns[i]? = some ns[i] := List.getElem?_eq_getElem (by omega)
    have rest : ∀ (D : Ends) (wv' : Int), 0 ≤ wv' → wv' ≤ n → (w = true → wv' = ns[i]) → (∀ σ H', TrueI p f g n off step ns H (N - 1 - n) (i + 1) σ H' → D.nx σ H') →
        t__law_true_1 K D [some (.ref p), some (.int n), some (.int off), some (.int step), some (.ref f), some (.int wv'), some (.int (tm + k)), some (.ref g), some (.int (0 + i)), some (.str (kindS w)), x10, x11, x12] H9 := by
      intro D wv' a0 a1 aw hD
      unfold t__law_true_1
      walk_at "ws_4"
      refine o_draw pt9 (by omega) (by omega) (by omega) fun H10 e1 kp10 pt10 e10 e11 => ?_
      walk_at "ws_4"
      refine o_draw pt10 (by omega) (by omega) (by omega) fun H11 e2 kp11 pt11 e20 e21 => ?_
      walk_at "ws_4"
      refine k_tup (by simp; decide) fun u H12 n12 => ?_
      have pt12 := pt11.new n12
      walk_at "ws_4"
      refine o_ixT n12.at_ (by decide) rfl ?_
      walk_at "ws_4"
      refine o_draw pt12 (by omega) (by omega) (by omega) fun H13 e3 kp13 pt13 e30 e31 => ?_
      have hu13 := kp13.tup _ _ n12.at_
      walk_at "ws_4"
      refine o_draw pt13 (by omega) (by omega) (by omega) fun H14 e4 kp14 pt14 e40 e41 => ?_
      have k914 : Keep (At p) H9 H14 := ((kp10.trans kp11).trans (n12.keep.trans kp13)).trans kp14
      have hf14 := k914.all _ _ (fun z => pf z.symm) hf9
      have hg14 := k914.all _ _ (fun z => pg z.symm) hg9
      have hd14 := hd9.keep (k914.mono fun _ _ => trivial)
      walk_at "ws_4"
      generalize hb : (tm + k - e1 - off + e3) = bg
      generalize he : (tm + k + e2 - off + e4) = en
      refine k_tup (by simp; decide) fun t H15 n15 => ?_
      walk_at "ws_4"
      refine o_app (n15.get hf14) (Nat.lt_of_le_of_lt (by omega : xs.length ≤ 1000) (by decide)) fun H16 p16 => ?_
      walk_at "ws_4"
      have dn : DD All H16 (.ref t) (Op.dat ⟨w, wv', if en < bg then en else bg, if en > bg then en else bg⟩) := (op_new n15).keep (p16.keep (S := All) trivial (n15.get hf14))
      have b1 : (if en < bg then en else bg) ≤ (if en > bg then en else bg) := by split <;> split <;> omega
      have b2 : -100000000 ≤ (if en < bg then en else bg) := by split <;> omega
      have b3 : (if en > bg then en else bg) ≤ 100000100000000 := by split <;> omega
      have hwr : wr (ops ++ [⟨w, wv', if en < bg then en else bg, if en > bg then en else bg⟩]) = if w = true then wr ops ++ [wv'] else wr ops := by
        rw [wr_append]
        cases w
        · show wr ops ++ [] = _
          rw [List.append_nil, if_neg (by simp)]
        · rfl
      refine hD _ _ ⟨ops ++ [⟨w, wv', if en < bg then en else bg, if en > bg then en else bg⟩], xs ++ [.ref t], wv', tm + k, _, _, _, _, _, rfl, ?_, ((pt14.new n15).put p16 pf).le (by omega), p16.at_, ?_, ?_, ?_, ?_, ?_, ?_, a0, a1, by omega, by omega⟩
      · exact p16.keep0 (((kp.trans k69).trans k914).trans n15.keep) n1.no (n15.get hf14)
      · rw [List.map_append]
        exact ((hd14.keep n15.keep).keep (p16.keep (S := All) trivial (n15.get hf14))).snoc dn
      · exact p16.get fg.symm (n15.get hg14)
      · refine ⟨fun o ho' => ?_, ?_⟩
        · rcases List.mem_append.mp ho' with ho' | ho'
          · exact lo.1 o ho'
          · simp only [List.mem_cons, List.not_mem_nil, or_false] at ho'
            subst ho'
            refine ⟨fun hw => ?_, a0, by show wv' ≤ _; omega, by show _ ≤ (if en < bg then en else bg); omega, b1, by show (if en > bg then en else bg) ≤ _; omega⟩
            have := hnb _ (List.mem_of_getElem? hni)
            have e := aw hw
            show 1 ≤ wv'
            omega
        · rw [hwr]
          split
          · rename_i hw
            refine List.nodup_append.mpr ⟨lo.2, by simp, fun a ha b hb' => ?_⟩
            simp at hb'
            subst hb'
            intro e
            obtain ⟨j, hj, ej⟩ := hin a ha
            rw [e, aw hw, ← hni] at ej
            have := (List.getElem?_inj (i := j) (j := i) (by omega) hnd).mp ej
            omega
          · exact lo.2
      · intro z hz
        rw [hwr] at hz
        split at hz
        · rename_i hw
          rcases List.mem_append.mp hz with hz | hz
          · obtain ⟨j, hj, ej⟩ := hin z hz
            exact ⟨j, by omega, ej⟩
          · simp at hz
            subst hz
            exact ⟨i, by omega, by rw [aw hw]; exact hni⟩
        · obtain ⟨j, hj, ej⟩ := hin z hz
          exact ⟨j, by omega, ej⟩
      · intro o ho'
        rcases List.mem_append.mp ho' with ho' | ho'
        · exact ho o ho'
        · simp only [List.mem_cons, List.not_mem_nil, or_false] at ho'
          subst ho'
          exact ⟨a1, b2, b3⟩
      · rw [List.length_append, hl]
        rfl
    refine w_iteb (fun hw => ?_) (fun hw => ?_)
    · walk_at "ws_4"
      refine o_ixL (v := .int ns[i]) hg9 (by omega) (by rw [show (0 + (i : Int)).toNat = i by omega, List.getElem?_map, hni]; rfl) ?_
      walk_at "ws_4"
      have := hnb _ (List.mem_of_getElem? hni)
      exact rest _ _ (by omega) (by omega) (fun _ => rfl) fun _ _ h => h
    · walk_at "ws_4"
      exact rest _ _ w0 w1 (fun h => by rw [h] at hw; cases hw) fun _ _ h => h
  · rintro σ H6 ⟨ops, xs, wv, tm, x8, x9, x10, x11, x12, rfl, kp, pt6, hf, hd, hgg, lo, hin, ho, hl, w0, w1, t0, t1⟩
    have hlx : xs.length = n := by rw [hd.length, List.length_map, hl]; omega
    walk_at "ws_4"
    refine ⟨p, f, xs, ops.map Op.dat, _, rfl, pt6, by omega, pf.symm, .inl hf, by omega, hd, fun d hd => ?_, fun H7 g' ys pm g0 hg kp7 pt7 => ?_⟩
    · obtain ⟨o, _, rfl⟩ := List.mem_map.mp hd
      exact o.lay
    · walk_at "ws_4"
      refine o_tupof hg fun t H8 n8 => ?_
      obtain ⟨es, pe, de⟩ := hd.perm pm
      obtain ⟨bs, eb, pb⟩ := perm_map_inv pe rfl
      subst eb
      refine q H8 t bs ((kp.trans kp7).trans n8.keep) ((pt7.new n8).le (by omega)) (.tup n8.at_ ((de.keep (kp7.mono fun _ _ => trivial)).keep n8.keep)) (lo.perm pb) ?_ fun o ho' => ho o (pb.mem_iff.mpr ho')
      rw [← pb.length_eq, hl]
end LB

namespace LB
open PySem PySem.Spec PyProof.Rows L2
/-! ### data that repr shows: how big -/
mutual
def okD (n : Nat) : PyData → Prop
  | .none => True
  | .bool _ => True
  | .int i => i.natAbs ≤ 10 ^ 30 + n
  | .str x => ∀ c ∈ x.cps.toList, c < 128
  | .list xs => okAll n xs
  | .tuple xs => okAll n xs
  | .dict kvs => kvs = []
def okAll (n : Nat) : List PyData → Prop
  | [] => True
  | x :: xs => okD n x ∧ okAll n xs
end
theorem okAll_iff {n : Nat} : ∀ {xs : List PyData}, okAll n xs ↔ ∀ d ∈ xs, okD n d
  | [] => by simp [okAll]
  | x :: xs => by simp [okAll, okAll_iff (xs := xs)]
mutual
theorem okD_mono {n m : Nat} (h : n ≤ m) : ∀ {d : PyData}, okD n d → okD m d
  | .none, _ => by simp only [okD]
  | .bool _, _ => by simp only [okD]
  | .int i, e => by simp only [okD] at e ⊢; omega
  | .str x, e => by simp only [okD] at e ⊢; exact e
  | .list xs, e => by simp only [okD] at e ⊢; exact okAll_mono h e
  | .tuple xs, e => by simp only [okD] at e ⊢; exact okAll_mono h e
  | .dict _, e => by simp only [okD] at e ⊢; exact e
theorem okAll_mono {n m : Nat} (h : n ≤ m) : ∀ {xs : List PyData}, okAll n xs → okAll m xs
  | [], _ => by simp only [okAll]
  | x :: xs, e => by simp only [okAll] at e ⊢; exact ⟨okD_mono h e.1, okAll_mono h e.2⟩
end
theorem wAll_append : ∀ {xs ys : List PyData}, PyData.weightAll (xs ++ ys) = PyData.weightAll xs + PyData.weightAll ys
  | [], ys => by simp [PyData.weightAll]
  | x :: xs, ys => by simp only [List.cons_append, PyData.weightAll, wAll_append (xs := xs)]; omega
theorem wAll_take {xs : List PyData} {k : Nat} : PyData.weightAll (xs.take k) + PyData.weightAll (xs.drop k) = PyData.weightAll xs := by
  rw [← wAll_append, List.take_append_drop]
theorem wAll_rev : ∀ {xs : List PyData}, PyData.weightAll xs.reverse = PyData.weightAll xs
  | [] => rfl
  | x :: xs => by rw [List.reverse_cons, wAll_append, wAll_rev (xs := xs)]; simp only [PyData.weightAll]; omega
theorem wAll_cut {xs : List PyData} {lo hi : Option Int} : PyData.weightAll (cutD xs lo hi) ≤ PyData.weightAll xs := by
  unfold cutD
  have h1 := wAll_take (xs := xs.drop (HT.sIx xs.length 0 lo)) (k := HT.sIx xs.length xs.length hi - HT.sIx xs.length 0 lo)
  have h2 := wAll_take (xs := xs) (k := HT.sIx xs.length 0 lo)
  omega
theorem wAll_len : ∀ {xs : List PyData}, xs.length ≤ PyData.weightAll xs
  | [] => by simp
  | x :: xs => by simp only [List.length_cons, PyData.weightAll]; have := wAll_len (xs := xs); omega
theorem wAll_mem : ∀ {xs : List PyData} {d : PyData}, d ∈ xs → d.weight + 1 ≤ PyData.weightAll xs
  | x :: xs, d, h => by
    simp only [PyData.weightAll]
    rcases List.mem_cons.mp h with rfl | h
    · omega
    · have := wAll_mem h; omega
theorem dpAll_mem : ∀ {xs : List PyData} {d : PyData}, d ∈ xs → d.depth ≤ PyData.depthAll xs
  | x :: xs, d, h => by
    simp only [PyData.depthAll]
    rcases List.mem_cons.mp h with rfl | h
    · omega
    · have := dpAll_mem h; omega
structure Nice (n k w : Nat) (d : PyData) : Prop where
  ok : okD n d
  dp : d.depth ≤ k
  wt : d.weight ≤ w
theorem Nice.mono {n k w n' k' w' : Nat} {d : PyData} (h : Nice n k w d) (h1 : n ≤ n') (h2 : k ≤ k') (h3 : w ≤ w') : Nice n' k' w' d :=
  ⟨okD_mono h1 h.ok, by have := h.dp; omega, by have := h.wt; omega⟩
theorem nice_non {n k w : Nat} : Nice n k w .none := ⟨by simp only [okD], by simp only [PyData.depth]; omega, by simp only [PyData.weight]; omega⟩
theorem nice_bl {n k w : Nat} {b : Bool} : Nice n k w (.bool b) := ⟨by simp only [okD], by simp only [PyData.depth]; omega, by simp only [PyData.weight]; omega⟩
theorem log_ok {i : Int} {n : Nat} (h : i.natAbs ≤ 10 ^ 30 + n) (hn : n ≤ 10 ^ 30) : i.natAbs.log2 < 101 := by
  by_cases h0 : i.natAbs = 0
  · rw [h0]; decide
  · refine (Nat.log2_lt h0).mpr ?_
    have : (10 : Nat) ^ 30 + 10 ^ 30 < 2 ^ 101 := by decide +kernel
    omega
theorem nice_int {n k w : Nat} {i : Int} (h : i.natAbs ≤ 10 ^ 30 + n) (hn : n ≤ 10 ^ 30) (hw : 101 ≤ w) : Nice n k w (.int i) := by
  refine ⟨by simp only [okD]; exact h, by simp only [PyData.depth]; omega, ?_⟩
  simp only [PyData.weight]
  have := log_ok h hn
  split <;> omega
theorem nice_str {n k w : Nat} {x : Str} (h : ∀ c ∈ x.cps.toList, c < 128) (hw : x.length ≤ w) : Nice n k w (.str x) :=
  ⟨by simp only [okD]; exact h, by simp only [PyData.depth]; omega, by simp only [PyData.weight]; exact hw⟩
theorem nice_dict {n k w : Nat} : Nice n (k + 1) w (.dict []) := ⟨by simp only [okD], by simp only [PyData.depth, PyData.depthKv]; omega, by simp only [PyData.weight, PyData.weightKv]; omega⟩
theorem nice_list {n k w : Nat} {ds : List PyData} (h : ∀ d ∈ ds, okD n d) (hd : ∀ d ∈ ds, d.depth ≤ k) (hw : PyData.weightAll ds ≤ w) : Nice n (k + 1) w (.list ds) :=
  ⟨by simp only [okD]; exact okAll_iff.mpr h, by simp only [PyData.depth]; have := depthAll_of hd; omega, by simp only [PyData.weight]; exact hw⟩
theorem nice_tup {n k w : Nat} {ds : List PyData} (h : ∀ d ∈ ds, okD n d) (hd : ∀ d ∈ ds, d.depth ≤ k) (hw : PyData.weightAll ds ≤ w) : Nice n (k + 1) w (.tuple ds) :=
  ⟨by simp only [okD]; exact okAll_iff.mpr h, by simp only [PyData.depth]; have := depthAll_of hd; omega, by simp only [PyData.weight]; exact hw⟩
theorem Nice.items {n k w : Nat} {ds : List PyData} (h : Nice n k w (.tuple ds)) : (∀ d ∈ ds, okD n d) ∧ (∀ d ∈ ds, d.depth + 1 ≤ k) ∧ PyData.weightAll ds ≤ w := by
  obtain ⟨h1, h2, h3⟩ := h
  simp only [okD] at h1
  simp only [PyData.depth] at h2
  simp only [PyData.weight] at h3
  exact ⟨okAll_iff.mp h1, fun d hd => by have := dpAll_mem hd; omega, h3⟩
/-! ### what repr asks -/
mutual
theorem okD_short {n : Nat} (hn : n ≤ 10 ^ 30) : ∀ {d : PyData}, okD n d → d.leavesShort 40 = true ∧ d.showable = true
  | .none, _ => by simp only [PyData.leavesShort, PyData.showable]; simp
  | .bool _, _ => by simp only [PyData.leavesShort, PyData.showable]; simp
  | .int i, h => by
    simp only [okD] at h
    have h1 := log_ok h hn
    have h2 : (toString i).length ≤ 32 + 1 := int_text_length_le10 (k := 32) (by decide) (by
      have : (10 : Nat) ^ 30 + 10 ^ 30 < 10 ^ 32 := by decide +kernel
      omega)
    simp only [PyData.leavesShort, PyData.showable, decide_eq_true_eq]
    refine ⟨?_, by omega⟩
    show (Str.ofString (toString i)).length ≤ 40
    rw [PySem.ofString_length]
    omega
  | .str x, h => by
    simp only [okD] at h
    simp only [PyData.leavesShort, PyData.showable, List.all_eq_true, decide_eq_true_eq, and_true]
    intro c hc
    have := h c hc
    have : (16 : Nat) ^ 8 = 4294967296 := by decide
    omega
  | .list xs, h => by simp only [okD] at h; simp only [PyData.leavesShort, PyData.showable]; exact okAll_short hn h
  | .tuple xs, h => by simp only [okD] at h; simp only [PyData.leavesShort, PyData.showable]; exact okAll_short hn h
  | .dict _, h => by simp only [okD] at h; subst h; simp only [PyData.leavesShort, PyData.showable, PyData.leavesShortKv, PyData.showableKv]; simp
theorem okAll_short {n : Nat} (hn : n ≤ 10 ^ 30) : ∀ {xs : List PyData}, okAll n xs → PyData.leavesShortAll 40 xs = true ∧ PyData.showableAll xs = true
  | [], _ => by simp only [PyData.leavesShortAll, PyData.showableAll]; simp
  | x :: xs, h => by
    simp only [okAll] at h
    have h1 := okD_short hn h.1
    have h2 := okAll_short hn h.2
    simp only [PyData.leavesShortAll, PyData.showableAll, h1.1, h1.2, h2.1, h2.2, Bool.and_self, and_self]
end
theorem Nice.shows {n k w : Nat} {d : PyData} (h : Nice n k w d) (hn : n ≤ 1000) (hk : k ≤ 60) (hw : w ≤ 300000) : d.showable = true ∧ d.depth ≤ 60 ∧ d.shown.length ≤ sizeLine := by
  have h1 := okD_short (n := n) (by have : (1000 : Nat) ≤ 10 ^ 30 := by decide +kernel
                                    omega) h.ok
  refine ⟨h1.2, by have := h.dp; omega, ?_⟩
  have h2 := PyData.shown_le 40 (by decide) d h1.1
  have h3 := h.wt
  have h4 : (40 + 2) * d.weight ≤ 42 * 300000 := Nat.mul_le_mul (by decide) (by omega)
  have h5 : 42 * 300000 + 40 ≤ sizeLine := by decide
  omega
/-! ### values that stand for such data -/
def Good (S : Addr → Prop) (H : Hp) (n k w : Nat) (v : V) : Prop := ∃ d, DD S H v d ∧ Nice n k w d
theorem Good.keep {S : Addr → Prop} {H H' : Hp} {n k w : Nat} {v : V} (h : Good S H n k w v) (e : Keep S H H') : Good S H' n k w v := let ⟨d, h1, h2⟩ := h; ⟨d, h1.keep e, h2⟩
theorem Good.mono {S : Addr → Prop} {H : Hp} {n k w n' k' w' : Nat} {v : V} (h : Good S H n k w v) (h1 : n ≤ n') (h2 : k ≤ k') (h3 : w ≤ w') : Good S H n' k' w' v := let ⟨d, e1, e2⟩ := h; ⟨d, e1, e2.mono h1 h2 h3⟩
section
variable {S : Addr → Prop} {H H1 : Hp} {n k w : Nat} {K : PySem.W.Frag} {Q : VK}
theorem good_non : Good S H n k w .non := ⟨_, .non, nice_non⟩
theorem good_bl {b : Bool} : Good S H n k w (.bl b) := ⟨_, .bl b, nice_bl⟩
theorem good_int {i : Int} (h : i.natAbs ≤ 10 ^ 30 + n) (hn : n ≤ 10 ^ 30) (hw : 101 ≤ w) : Good S H n k w (.int i) := ⟨_, .int i, nice_int h hn hw⟩
theorem good_str {x : Str} (h : ∀ c ∈ x.cps.toList, c < 128) (hw : x.length ≤ w) : Good S H n k w (.str x) := ⟨_, .str x, nice_str h hw⟩
theorem good_tup {a : Addr} {xs : List V} {ds : List PyData} (e : H a = some (.tup xs)) (hd : DDs S H xs ds) (h : Nice n k w (.tuple ds)) : Good S H n k w (.ref a) := ⟨_, .tup e hd, h⟩
theorem good_lst {a : Addr} {xs : List V} {ds : List PyData} (ha : ¬ S a) (e : H a = some (.lst xs)) (hd : DDs S H xs ds) (h : Nice n k w (.list ds)) : Good S H n k w (.ref a) := ⟨_, .lst ha e hd, h⟩
theorem all_nil {P : V → Prop} : ∀ v ∈ ([] : List V), P v := fun _ h => by cases h
theorem all_cons {P : V → Prop} {v : V} {vs : List V} (h : P v) (r : ∀ u ∈ vs, P u) : ∀ u ∈ v :: vs, P u := fun u hu => by
  rcases List.mem_cons.mp hu with rfl | hu
  · exact h
  · exact r u hu
theorem all_app {P : V → Prop} {us vs : List V} (h : ∀ u ∈ us, P u) (r : ∀ u ∈ vs, P u) : ∀ u ∈ us ++ vs, P u := fun u hu => by
  rcases List.mem_append.mp hu with hu | hu
  · exact h u hu
  · exact r u hu
/-- some + more * 2 -/
theorem twice_more {P : Hp → V → Prop} {R : V → Hp → Prop} {l m : Addr} {xs ys : List V} (hP : ∀ {v : V} {H H1 : Hp}, P H v → Keep NoS H H1 → P H1 v)
    (e1 : H l = some (.lst xs)) (e2 : H m = some (.lst ys)) (z1 : 1 ≤ xs.length) (z2 : xs.length ≤ 100) (z3 : ys.length ≤ 100) (h1 : ∀ v ∈ xs, P H v) (h2 : ∀ v ∈ ys, P H v)
    (r : ∀ q H9 zs, Keep NoS H H9 → H9 q = some (.lst zs) → H q = none → 1 ≤ zs.length → zs.length ≤ 300 → (∀ v ∈ zs, P H9 v) → R (.ref q) H9) :
    rMulA K (.ref m) (.int 2) H fun y H2 => rAddO K (.ref l) y H2 R := by
  refine o_rep2 e2 (Nat.le_trans (by omega : ys.length * 2 ≤ 1000) (by decide)) fun q H1 n1 => ?_
  refine oo_add (o_addL (n1.get e1) n1.at_ (Nat.le_trans (by rw [List.length_append]; omega : _ ≤ 1000) (by decide)) fun q2 H2 n2 => ?_)
  have k : Keep NoS H H2 := n1.keep.trans n2.keep
  refine r q2 H2 _ k n2.at_ ?_ (by rw [List.length_append]; omega) (by rw [List.length_append, List.length_append]; omega) (all_app (fun v hv => hP (h1 v hv) k) (all_app (fun v hv => hP (h2 v hv) k) fun v hv => hP (h2 v hv) k))
  cases e : H q2 with
  | none => rfl
  | some o => have := n1.get e; rw [n2.no] at this; cases this
theorem str_app_ascii {x y : Str} (hx : ∀ c ∈ x.cps.toList, c < 128) (hy : ∀ c ∈ y.cps.toList, c < 128) : ∀ c ∈ (x ++ y).cps.toList, c < 128 := fun c hc => by
  have e : (x ++ y).cps.toList = x.cps.toList ++ y.cps.toList := by
    show (x.cps ++ y.cps).toList = _
    exact Array.toList_append
  rw [e] at hc
  rcases List.mem_append.mp hc with hc | hc
  · exact hx c hc
  · exact hy c hc
theorem str_cut_ascii {x : Str} {lo hi : Option Int} (hx : ∀ c ∈ x.cps.toList, c < 128) : ∀ c ∈ (cutS x lo hi).cps.toList, c < 128 := fun c hc => by
  unfold cutS at hc
  exact hx c (List.mem_of_mem_drop (List.mem_of_mem_take hc))
theorem str_upper_ascii {x : Str} (hx : ∀ c ∈ x.cps.toList, c < 128) : (∀ c ∈ (Txt.upper x).cps.toList, c < 128) ∧ (Txt.upper x).length = x.length := by
  rw [upper_ascii hx]
  refine ⟨fun c hc => ?_, ?_⟩
  · rw [Array.toList_map] at hc
    obtain ⟨b, hb, rfl⟩ := List.mem_map.mp hc
    have := hx b hb
    unfold up1
    split <;> omega
  · show (x.cps.map up1).size = x.cps.size
    exact Array.size_map
theorem str_int_ascii (i : Int) : ∀ c ∈ (Str.ofString (toString i)).cps.toList, c < 128 := fun c hc => by
  rw [signs_ofString] at hc
  obtain ⟨b, hb, rfl⟩ := List.mem_map.mp hc
  exact int_ascii i b hb
end
theorem oo_addi {K : PySem.W.Frag} {H : Hp} {Q : VK} {i j : Int} (h : Q (.int (i + j)) H) : rAddO K (.int i) (.int j) H Q := .inl (o_add h)
/-! ### odd -/
def spOdd : Sp := fun vs H Q _ => ∃ (p : Addr) (x : V) (d : PyData) (S : Addr → Prop) (N n k w : Nat), vs = [.ref p, x] ∧ Pot H p N ∧ 1 ≤ N ∧ S p ∧ (∀ b, S b → H b ≠ none) ∧ DD S H x d ∧ Nice n k w d ∧ n ≤ 900 ∧ w ≤ 100000 ∧
  ∀ (H' : Hp) (v : V), Keep (At p) H H' → Pot H' p (N - 1) → Good S H' (n + 1) (k + 1) (2 * w + 130) v → Q v H'
theorem spOdd_arity {vs : List V} {H : Hp} {Q : VK} {E : XK} (h : spOdd vs H Q E) : vs.length = 2 := by obtain ⟨_, _, _, _, _, _, _, _, rfl, _⟩ := h; rfl
end LB

namespace LB
open PySem PySem.Spec PyProof.Rows L2 HT
/-! ### t[::-1], t a tuple -/
section
variable {prog : Program} {w : World} {A : Around} {E : Value → Shared → Prop} {s : Shared}
theorem adj_rev (n : Nat) : Builtin.Slice.sliceAdjust none none (-1) (n : Int) = ((n : Int) - 1, -1) := by
  unfold Builtin.Slice.sliceAdjust
  simp
theorem places_rev (n : Nat) : Builtin.Slice.slicePlaces ((n : Int) - 1) (-1) (-1) = n := by
  unfold Builtin.Slice.slicePlaces
  simp only [show ¬ ((-1 : Int) > 0) by decide, if_false]
  split
  · simp only [show (- -1 : Int) = 1 by decide, Int.ediv_one]
    omega
  · omega
theorem applied_rev {sl : Addr} {vs : Value} {n : Nat} {Q : Int × Int × Nat → Shared → Prop} (hs : s.heap.IsSliceOf sl .none .none vs) (pv : IsPart vs (some (-1)))
    (h : Q ((n : Int) - 1, -1, n) s) : wpAny (model prog w) A (Builtin.Slice.sliceApplied (.ref sl) (pure (n : Int))) Q E s := by
  obtain ⟨os, hos, hcs, hds⟩ := id hs
  unfold Builtin.Slice.sliceApplied Builtin.Slice.sliceFields
  refine wpAny_bind (wpAny_bind (wpAny_field hos hds (x := .none) rfl (wpAny_bind (wpAny_field hos hds (x := .none) rfl (wpAny_bind (wpAny_field hos hds (x := vs) rfl (wpAny_pure ?_)))))))
  refine wpAny_bind (slicePart_ pv ?_)
  show wpAny _ _ (if ((-1 : Int) == 0) = true then _ else _) _ _ s
  rw [if_neg (by decide)]
  refine wpAny_bind (slicePart_ .none (wpAny_bind (slicePart_ .none (wpAny_bind (wpAny_pure ?_)))))
  show wpAny _ _ (match Builtin.Slice.sliceAdjust none none (-1) (n : Int) with | (lo, hi) => pure (lo, (-1 : Int), Builtin.Slice.slicePlaces lo hi (-1))) _ _ s
  rw [adj_rev]
  show wpAny _ _ (pure ((n : Int) - 1, (-1 : Int), Builtin.Slice.slicePlaces ((n : Int) - 1) (-1) (-1))) _ _ s
  rw [places_rev]
  exact wpAny_pure h
theorem fm_congr {α β : Type} {f g : α → Option β} : ∀ {l : List α}, (∀ m ∈ l, f m = g m) → l.filterMap f = l.filterMap g
  | [], _ => rfl
  | a :: l, h => by rw [List.filterMap_cons, List.filterMap_cons, h a List.mem_cons_self, fm_congr fun m hm => h m (List.mem_cons_of_mem _ hm)]
theorem pick_rev (xs : Array Value) : ((List.range xs.size).filterMap fun (m : Nat) => xs[(((xs.size : Int) - 1) + (m : Int) * -1).toNat]?) = xs.toList.reverse := by
  have e : (List.range xs.size).filterMap (fun (m : Nat) => xs[(((xs.size : Int) - 1) + (m : Int) * -1).toNat]?) = ((List.range xs.size).map (fun k => xs.size - 1 - k)).filterMap (xs[·]?) := by
    rw [List.filterMap_map]
    refine fm_congr fun m hm => ?_
    have hm := List.mem_range.mp hm
    have : (((xs.size : Int) - 1) + (m : Int) * -1).toNat = xs.size - 1 - m := by omega
    show _ = xs[xs.size - 1 - m]?
    rw [this]
  rw [e, PySem.W.krv_range, List.filterMap_reverse, PySem.W.krv_all]
theorem item_rev {t sl : Addr} {items : Array Value} {vs : Value} {Q : Value → Shared → Prop} (ht : IsTup s.heap t items) (hs : s.heap.IsSliceOf sl .none .none vs) (pv : IsPart vs (some (-1)))
    (h : Q (.ref s.heap.objs.size) { s with heap := s.heap.push { cls := .type "tuple", data := .seq items.toList.reverse.toArray } }) (hsz : items.size ≤ sizeLine) :
    wpAny (model prog w) A (getItem (.ref t) (.ref sl)) Q E s := by
  have hok : sizeOk (.seq items.toList.reverse.toArray) := by
    show items.toList.reverse.toArray.size ≤ sizeLine
    rw [List.size_toArray, List.length_reverse, Array.length_toList]
    exact hsz
  obtain ⟨os, hos, hcs, hds⟩ := id hs
  have hT : s.TypeIs (.ref sl) "slice" := ⟨os, hos, hcs⟩
  unfold getItem
  try with_reducible refine wpAny_holding ?_
  first | refine wpAny_bind (wpAny_pure ?_) | skip
  refine wpAny_bind (wpAny_sequenceKey ht.typeIs (by decide) ?_)
  refine wpAny_bind (wpAny_callSpecial?_slot (name := Str.ofString "__getitem__") ht.typeIs PyProof.Rows.slot_tuple_getitem (wpAny_call_entry PyProof.Rows.slot_tuple_getitem ht.typeIs entry_tuple_getitem ?_ (args_tuple_getitem _ _)))
  show wpAny _ _ (Builtin.Tuple.tupleItemsOf (.ref t) >>= _) _ _ s
  refine wpAny_bind (tupleItemsOf_ ht ?_)
  refine wpAny_bind (wpAny_typeOf hT ?_)
  rw [if_pos (by decide)]
  refine wpAny_bind (applied_rev hs pv ?_)
  have no : ¬ ((((items.size : Int) - 1) == 0 && (-1 : Int) == 1 && items.size == items.size) = true) := by
    intro q
    rw [Bool.and_eq_true, Bool.and_eq_true] at q
    exact absurd (eq_of_beq q.1.2) (by decide)
  show wpAny _ _ (if (((items.size : Int) - 1) == 0 && (-1 : Int) == 1 && items.size == items.size) = true then _ else _) _ _ s
  rw [if_neg no, pick_rev]
  first
    | exact wpAny_bind (m := Builtin.Tuple.tupleExact _) (wpAny_newObj_type (wpAny_pure ⟨_, rfl, wpAny_pure h⟩) hok)
    | exact wpAny_bind (m := Builtin.Tuple.tupleExact _) (wpAny_newObj_type (wpAny_bind (wpAny_pure (wpAny_pure ⟨_, rfl, wpAny_pure h⟩))) hok)
    | exact wpAny_bind (wpAny_bind (m := Builtin.Tuple.tupleExact _) (wpAny_newObj_type (wpAny_pure (wpAny_pure ⟨_, rfl, wpAny_pure h⟩)) hok))
    | exact wpAny_bind (wpAny_bind (m := Builtin.Tuple.tupleExact _) (wpAny_newObj_type (wpAny_pure ⟨_, rfl, wpAny_pure h⟩) hok))
end
def tRevA (K : PySem.W.Frag) (te : TE) : TE := fun σ H Q => te σ H fun x H1 => ∃ a xs, x = .ref a ∧ H1 a = some (.tup xs) ∧ ∀ p, H1 p = none → Q (.ref p) (upd H1 p (.tup xs.reverse))
theorem pe_revA {X : Cx} {e : Expr} {te : TE} {k : Nat} {p1 p2 p3 pos : Pos} (he : PE X e te) : PE X (.Subscript e (.Slice none none (some (.UnaryOp .USub (.Constant (.int 1) k p1) p2)) p3) pos) (tRevA X.K te) := by
  constructor
  intro pins s σ H Q I h
  refine Subscript_ (thn (he.run pins s σ H _ I h) ?_)
  rintro v s1 ⟨x, H1, I1, r1, a, xs, rfl, hx, q⟩
  cases r1
  have part : PO X (some (.UnaryOp .USub (.Constant (.int 1) k p1) p2)) (tPart (tUn (rU fun i => .int (-i)) (tC (.int 1)))) := po_some (pe_un un_neg pe_int)
  refine wpAny_Slice (thn (po_none.run pins s1 σ H1 (fun o H2 => o = none ∧ H2 = H1) I1 ⟨rfl, rfl⟩) ?_)
  rintro vl s2 ⟨l, H2, I2, pl, rfl, rfl⟩
  refine thn (po_none.run pins s2 σ H2 (fun o H3 => o = none ∧ H3 = H2) I2 ⟨rfl, rfl⟩) ?_
  rintro vu s3 ⟨u, H3, I3, pu, rfl, rfl⟩
  refine thn (part.run pins s3 σ H3 (fun o H4 => o = some (-1) ∧ H4 = H3) I3 ⟨1, rfl, -1, rfl, rfl, rfl⟩) ?_
  rintro vs s4 ⟨o, H4, I4, ps, rfl, rfl⟩
  cases pl
  cases pu
  have I5 : L2.Inv X pins σ H4 { s4 with heap := s4.heap.push { cls := .type "slice", data := .fields #[.none, .none, vs] } } := I4.kept (t' := s4.toks) fun b ob q => Heap.get?_push_of_some _ q
  obtain ⟨its, r, ht, hz⟩ := I5.tuple (.inl (.inl hx))
  have hlen := r.length
  show wpAny (model X.prog X.w) X.A (subscriptTail e (.Slice none none (some (.UnaryOp .USub (.Constant (.int 1) k p1) p2)) p3) (.ref a) (.ref s4.heap.objs.size)) (EP X pins σ Q) X.xe
    { s4 with heap := s4.heap.push { cls := .type "slice", data := .fields #[.none, .none, vs] } }
  refine tail_any (ops := [.ref a, .ref s4.heap.objs.size]) ht.typeIs (PyProof.Rows.slot_tuple_getitem.lookup) ?_ (by with_unfolding_all rfl)
  refine item_rev ht (Heap.IsSliceOf.new _ .none .none vs) ps ?_ (by rw [List.size_toArray]; omega)
  refine ⟨.ref _, _, I5.laid (t' := s4.toks) (o := .tup xs.reverse) (fun b ob q => Heap.get?_push_of_some _ q) (Nat.le_refl _) ?_, rfl, q _ (I5.hok.fresh (Nat.le_refl _))⟩
  exact ⟨by rw [List.length_reverse]; exact hz, _, r.reverse, ⟨_, Heap.get?_push_size _ rfl, rfl, _, rfl⟩⟩
def kRev (Q : VK) : VK := fun x H1 => ∃ a xs, x = .ref a ∧ H1 a = some (.tup xs) ∧ ∀ p, H1 p = none → Q (.ref p) (upd H1 p (.tup xs.reverse))
theorem w_rev {K : PySem.W.Frag} {te : TE} {σ : LB.St} {H : Hp} {Q : VK} (h : te σ H (kRev Q)) : tRevA K te σ H Q := h
theorem k_rev {H : Hp} {Q : VK} {a : Addr} {xs : List V} (e : H a = some (.tup xs)) (h : ∀ p H1, New H H1 p (.tup xs.reverse) → Q (.ref p) H1) : kRev Q (.ref a) H := ⟨a, xs, rfl, e, fun p hp => h p _ (.mk' hp)⟩
end LB

open PySem PySem.Spec PyProof.Rows L2 LB
/-! the tactic: one step of a reading; many -/
local macro_rules | `(tactic| walk_at "w1_5") => `(tactic| first
  | with_reducible refine w_seq ?_ | with_reducible refine w_asg ?_ | with_reducible refine w_drop ?_ | with_reducible refine w_ret ?_ | with_reducible refine w_next ?_
  | with_reducible refine w_ifs ?_ | with_reducible refine w_forR1 ?_ | with_reducible refine w_forR2 ?_ | with_reducible refine w_forL ?_ | with_reducible refine w_forT ?_ | with_reducible refine w_name ?_ | with_reducible refine w_sub ?_ | with_reducible refine w_par ?_
  | with_reducible refine w_var (by with_unfolding_all rfl) ?_ | with_reducible refine w_c ?_ | with_reducible refine w_op ?_ | with_reducible refine w_un ?_
  | with_reducible refine w_test ?_ | with_reducible refine w_tb ?_ | with_reducible refine w_nil ?_ | with_reducible refine w_cons ?_ | with_reducible refine w_cb ?_ | with_reducible refine w_call ?_
  | with_reducible refine w_not ?_ | with_reducible refine w_and ?_ | with_reducible refine w_or ?_ | with_reducible refine w_andV ?_ | with_reducible refine w_orV ?_ | with_reducible refine w_notV ?_
  | with_reducible refine w_ife ?_ | with_reducible refine w_chain ?_ | with_reducible refine w_bm ?_ | with_reducible refine w_sl ?_ | with_reducible refine w_part ?_ | with_reducible refine w_nopart ?_
  | with_reducible refine w_exb ?_ | with_reducible refine w_exi ?_ | with_reducible refine w_ex2 ?_ | with_reducible refine w_ex3 ?_ | with_reducible refine w_lstrg ?_ | with_reducible refine w_rg2 ?_ | with_reducible refine w_rg1 ?_ | with_reducible refine w_exij ?_ | with_reducible refine w_tup ?_ | with_reducible refine w_lst ?_
  | with_reducible refine o_add ?_ | with_reducible refine o_sub ?_ | with_reducible refine o_neg ?_ | with_reducible refine o_lt ?_ | with_reducible refine o_le ?_ | with_reducible refine o_gt ?_ | with_reducible refine o_ge ?_
  | with_reducible refine o_ixL (by assumption) (by decide) (by with_unfolding_all rfl) ?_ | with_reducible refine o_ixT (by assumption) (by decide) (by with_unfolding_all rfl) ?_
  | with_reducible refine o_mod (by first | decide | omega) ?_ | with_reducible refine o_mul (by first | decide | omega) ?_ | with_reducible refine o_fdv (by first | decide | omega) (by first | decide | omega) ?_ | with_reducible refine o_setL (by assumption) (by decide) (by simp) ?_
  | with_reducible refine oo_addi ?_ | with_reducible refine oo_sub ?_ | with_reducible refine oo_neg ?_ | with_reducible refine w_rev ?_ | with_reducible refine w_m0 ?_
  | with_reducible refine w_par3 ?_ | with_reducible refine w_tyl (by assumption) ?_
  | with_reducible refine o_abs ?_ | with_reducible refine o_eqs (by with_unfolding_all rfl) ?_ | with_reducible refine o_nes (by with_unfolding_all rfl) ?_ | with_reducible refine o_max2 ?_ | with_reducible refine o_min2 ?_ | with_reducible refine o_isiX (by assumption) ?_ | with_reducible refine o_lenl (by assumption) ?_ | with_reducible refine o_lent (by assumption) ?_ | with_reducible refine o_int1b ?_)
local macro_rules | `(tactic| walk_at "ws_5") => `(tactic| repeat (first | walk_at "w1_5" | dsimp only [List.set_cons_zero, List.set_cons_succ]))
namespace LB

def t__law_odd (K : PySem.W.Frag) : TS :=
  (tSeq (tAsg (tLst (tCons (tC V.non) (tCons (tC (V.bl true)) (tCons (tC (V.bl false)) (tCons (tC (V.int 0)) (tCons (tC (V.int 1)) (tCons (tUn rNegO (tC (V.int 1))) (tCons (tC (V.int 7)) (tCons (tOp (rAddO K) (tOp rPowI (tC (V.int 10)) (tC (V.int 9))) (tC (V.int 1))) (tCons (tOp rPowI (tC (V.int 10)) (tC (V.int 30))) (tCons (tC (V.str "")) (tCons (tC (V.str "read")) (tCons (tC (V.str "write")) (tCons (tTup tNil) (tCons (tLst tNil) (tCons tDNewK (tCons (tTup (tCons (tC (V.int 0)) tNil)) (tCons (tTup (tCons (tC (V.str "a")) tNil)) (tCons (tLst (tCons (tC (V.int 0)) tNil)) tNil))))))))))))))))))) (gName 2))
    (tSeq (tIfS (tB (tCB (rIsi K) (tCons (tVar 1) (tCons (tC (V.ty "tuple")) tNil))))
    (tAsg (tOp (rAddO K) (tVar 2) (tOp (rMulA K) (tLst (tCons (tCB (rListOf K) (tCons (tVar 1) tNil)) (tCons (tSl (rSlAny K) (tVar 1) tNoPart (tPart (tUn rNegO (tC (V.int 1))))) (tCons (tOp (rAddO K) (tVar 1) (tSl (rSlAny K) (tVar 1) (tPart (tUn rNegO (tC (V.int 1)))) tNoPart)) (tCons (tRevA K (tVar 1)) (tCons (tTup (tCons (tVar 1) tNil)) (tCons (tSl (rSlAny K) (tVar 1) (tPart (tC (V.int 1))) tNoPart) tNil))))))) (tC (V.int 2)))) (gName 2)) (tIfS (tB (tCB (rIsi K) (tCons (tVar 1) (tCons (tC (V.ty "str")) tNil))))
    (tAsg (tOp (rAddO K) (tVar 2) (tOp (rMulA K) (tLst (tCons (tOp (rAddO K) (tVar 1) (tC (V.str "s"))) (tCons (tSl (rSlAny K) (tVar 1) tNoPart (tPart (tUn rNegO (tC (V.int 1))))) (tCons (tM0 rUpper (tVar 1)) (tCons (tTup (tCons (tVar 1) tNil)) (tCons (tLst (tCons (tVar 1) tNil)) tNil)))))) (tC (V.int 2)))) (gName 2)) (tIfS (tB (tCB (rIsi K) (tCons (tVar 1) (tCons (tC (V.ty "int")) tNil))))
    (tAsg (tOp (rAddO K) (tVar 2) (tOp (rMulA K) (tLst (tCons (tOp (rAddO K) (tVar 1) (tC (V.int 1))) (tCons (tOp rSubO (tVar 1) (tC (V.int 1))) (tCons (tCB rStrO (tCons (tVar 1) tNil)) (tCons (tOp (rEqO K) (tVar 1) (tC (V.int 1))) (tCons (tUn rNegO (tVar 1)) tNil)))))) (tC (V.int 2)))) (gName 2)) tNext)))
    (tRet (tCall (spAny K) [] E0 (tCons (tVar 0) (tCons (tVar 2) tNil))))))

theorem ascii_lit {x : Str} (h : x.cps.toList.all (fun c => decide (c < 128)) = true) : ∀ c ∈ x.cps.toList, c < 128 := fun c hc => by
  have := (List.all_eq_true.mp h) c hc
  simpa using this
theorem good_lit {S : Addr → Prop} {H : Hp} {n k w : Nat} {x : Str} (h : x.cps.toList.all (fun c => decide (c < 128)) = true) (h2 : x.length ≤ 30) (h3 : 30 ≤ w) : Good S H n k w (.str x) := good_str (ascii_lit h) (by omega)
theorem New.free {H H1 : Hp} {p q : Addr} {o : HO} (n : New H H1 p o) (e : H1 q = none) : H q = none := by
  cases h : H q with
  | none => rfl
  | some u => rw [n.get h] at e; cases e
theorem nos_free {H H1 : Hp} {q : Addr} (k : Keep NoS H H1) (e : H1 q = none) : H q = none := by
  cases h : H q with
  | none => rfl
  | some u => rw [k.all _ _ id h] at e; cases e
theorem not_S {S : Addr → Prop} {H : Hp} {q : Addr} (hS : ∀ b, S b → H b ≠ none) (e : H q = none) : ¬ S q := fun h => hS q h e
theorem pure__law_odd {K : PySem.W.Frag} {vs : List V} {H : Hp} {Q : VK} {E : XK} (h : spOdd vs H Q E) : t__law_odd K { nx := fun _ H' => Q .non H', rt := Q } (start ["pot", "thing", "some"] vs) H := by
  obtain ⟨p, x, d, S, N, n, k, w, rfl, pt, hN, hp, hS, hd, hn, n1k, hw, q⟩ := h
  show t__law_odd K _ [some (.ref p), some x, none] H
  unfold t__law_odd
  have big : n + 1 ≤ 10 ^ 30 := by
    have : (1000 : Nat) ≤ 10 ^ 30 := by decide +kernel
    omega
  walk_at "ws_5"
  refine o_pow ⟨by decide, by decide +kernel⟩ ?_
  walk_at "ws_5"
  rw [show (10 : Int) ^ (9 : Int).toNat = 1000000000 by decide +kernel]
  refine o_pow ⟨by decide, by decide +kernel⟩ ?_
  walk_at "ws_5"
  refine k_tup (by simp) fun t1 H1 n1 => ?_
  walk_at "ws_5"
  refine k_lst (by simp) fun t2 H2 n2 => ?_
  walk_at "ws_5"
  refine w_dnew fun t3 H3 n3 => ?_
  walk_at "ws_5"
  refine k_tup (by simp; decide) fun t4 H4 n4 => ?_
  walk_at "ws_5"
  refine k_tup (by simp; decide) fun t5 H5 n5 => ?_
  walk_at "ws_5"
  refine k_lst (by simp; decide) fun t6 H6 n6 => ?_
  walk_at "ws_5"
  refine k_lst (by simp; decide) fun l H7 n7 => ?_
  walk_at "ws_5"
  have k02 : Keep NoS H H2 := n1.keep.trans n2.keep
  have k05 : Keep NoS H H5 := ((k02.trans n3.keep).trans n4.keep).trans n5.keep
  have k07 : Keep NoS H H7 := (k05.trans n6.keep).trans n7.keep
  have f2 : ¬ S t2 := not_S hS (n1.free n2.no)
  have f3 : ¬ S t3 := not_S hS (nos_free k02 n3.no)
  have f6 : ¬ S t6 := not_S hS (nos_free k05 n6.no)
  have fl : H l = none := nos_free (k05.trans n6.keep) n7.no
  have lp : l ≠ p := fun e => pt.ne fl e.symm
  have z1 : ∀ v ∈ ([.int 0] : List V), True := fun _ _ => trivial
  have g0 : ∀ {S : Addr → Prop} {H : Hp}, DDs S H [V.int 0] [PyData.int 0] := .cons (.int 0) .nil
  have n0 : ∀ d ∈ [PyData.int 0], okD (n + 1) d ∧ d.depth ≤ k := fun d hd => by
    simp only [List.mem_cons, List.not_mem_nil, or_false] at hd
    subst hd
    simp only [okD, PyData.depth]
    omega
  have w0 : PyData.weightAll [PyData.int 0] ≤ 2 * w + 130 := by
    have : PyData.weightAll [PyData.int 0] = 1 := by decide
    omega
  have ga : Good S H7 (n + 1) (k + 1) (2 * w + 130) (.ref t5) := by
    refine good_tup (ds := [.str "a"]) (n7.get (n6.get n5.at_)) (.cons (.str _) .nil) (nice_tup (fun d hd => ?_) (fun d hd => ?_) ?_)
    · simp only [List.mem_cons, List.not_mem_nil, or_false] at hd
      subst hd
      simp only [okD]
      exact ascii_lit (by decide)
    · simp only [List.mem_cons, List.not_mem_nil, or_false] at hd
      subst hd
      simp only [PyData.depth]
      omega
    · have : PyData.weightAll [PyData.str "a"] = 2 := by decide
      omega
  have hx : ∀ v ∈ [V.non, V.bl true, V.bl false, V.int 0, V.int 1, V.int (-1), V.int 7, V.int (1000000000 + 1), V.int (10 ^ (30 : Int).toNat), V.str "", V.str "read", V.str "write", V.ref t1, V.ref t2, V.ref t3, V.ref t4, V.ref t5, V.ref t6], Good S H7 (n + 1) (k + 1) (2 * w + 130) v := by
    refine all_cons good_non (all_cons good_bl (all_cons good_bl (all_cons (good_int (by simp) big (by omega)) (all_cons (good_int (by simp; omega) big (by omega)) (all_cons (good_int (by simp; omega) big (by omega)) (all_cons (good_int ?_ big (by omega)) (all_cons (good_int ?_ big (by omega)) (all_cons (good_int ?_ big (by omega)) ?_))))))))
    · have : (7 : Int).natAbs ≤ 10 ^ 30 := by decide +kernel
      omega
    · have : (1000000000 + 1 : Int).natAbs ≤ 10 ^ 30 := by decide +kernel
      omega
    · have : (10 ^ (30 : Int).toNat : Int).natAbs ≤ 10 ^ 30 := by decide +kernel
      omega
    refine all_cons (good_lit (by decide) (by decide) (by omega)) (all_cons (good_lit (by decide) (by decide) (by omega)) (all_cons (good_lit (by decide) (by decide) (by omega)) ?_))
    refine all_cons (good_tup (n7.get (n6.get (n5.get (n4.get (n3.get (n2.get n1.at_)))))) .nil (nice_tup (fun _ h => by cases h) (fun _ h => by cases h) (by simp [PyData.weightAll]))) ?_
    refine all_cons (good_lst f2 (n7.get (n6.get (n5.get (n4.get (n3.get n2.at_))))) .nil (nice_list (fun _ h => by cases h) (fun _ h => by cases h) (by simp [PyData.weightAll]))) ?_
    refine all_cons ⟨_, .dct f3 (n7.get (n6.get (n5.get (n4.get n3.at_)))) .nil, nice_dict⟩ ?_
    refine all_cons (good_tup (n7.get (n6.get (n5.get n4.at_))) g0 (nice_tup (fun d hd => (n0 d hd).1) (fun d hd => (n0 d hd).2) w0)) (all_cons ga ?_)
    exact all_cons (good_lst f6 (n7.get n6.at_) g0 (nice_list (fun d hd => (n0 d hd).1) (fun d hd => (n0 d hd).2) w0)) all_nil
  have hd7 : DD S H7 x d := hd.keep k07.of0
  have pt7 : Pot H7 p N := pt.keep k07
  -- the end: one of them
  have fin : ∀ (D : Ends), D.rt = Q → ∀ (y : V) (l2 : Addr) (H8 : Hp) (ys : List V), Keep NoS H7 H8 → H8 l2 = some (.lst ys) → l2 ≠ p → 1 ≤ ys.length → ys.length ≤ 300 → (∀ v ∈ ys, Good S H8 (n + 1) (k + 1) (2 * w + 130) v) →
      (tRet (tCall (spAny K) [] E0 (tCons (tVar 0) (tCons (tVar 2) tNil)))) D [some (.ref p), some y, some (.ref l2)] H8 := by
    intro D hD y l2 H8 ys k78 e ne a1 a2 hy
    walk_at "ws_5"
    refine o_any (pt7.keep k78) hN ne (.inl e) a1 (by omega) fun H' i v ev kp pt' => ?_
    rw [hD]
    exact q H' v ((k07.trans k78).of0.trans kp) pt' ((hy v (List.mem_of_getElem? ev)).keep (kp.mono fun b hb => by rw [hb]; exact hp))
  have more : ∀ (D : Ends), D.rt = Q → ∀ (y : V) (H8 : Hp) (m : Addr) (ys : List V), Keep NoS H7 H8 → H8 m = some (.lst ys) → ys.length ≤ 100 → (∀ v ∈ ys, Good S H8 (n + 1) (k + 1) (2 * w + 130) v) →
      rMulA K (.ref m) (.int 2) H8 fun z H9 => rAddO K (.ref l) z H9 fun u H10 => (tRet (tCall (spAny K) [] E0 (tCons (tVar 0) (tCons (tVar 2) tNil)))) D [some (.ref p), some y, some u] H10 := by
    intro D hD y H8 m ys k78 e z3 hy
    refine twice_more (P := fun H v => Good S H (n + 1) (k + 1) (2 * w + 130) v) (fun h e => h.keep e.of0) (k78.all _ _ id n7.at_) e (by simp) (by simp) z3 (fun v hv => (hx v hv).keep k78.of0) hy fun q2 H9 zs k9 e9 f9 a1 a2 hz => ?_
    exact fin D hD y q2 H9 zs (k78.trans k9) e9 (fun e => (pt7.keep k78).ne f9 e.symm) a1 a2 hz
  walk_at "ws_5"
  rw [isT_tuple]
  cases d with
  | tuple ds =>
    refine w_iteT rfl ?_
    obtain ⟨a, xs, rfl, ha, hx0⟩ := hd7.tupX
    obtain ⟨i1, i2, i3⟩ := hn.items
    have hlen : xs.length ≤ w := by
      rw [hx0.length]
      have := wAll_len (xs := ds)
      omega
    walk_at "ws_5"
    refine o_listof (.inr (.inl (.inl ha))) fun l1 H8 m8 => ?_
    walk_at "ws_5"
    have ha8 := m8.get ha
    refine o_slt ha8 fun p1 H9 k9 e9 => ?_
    walk_at "ws_5"
    have ha9 := k9.tup _ _ ha8
    refine o_slt ha9 fun p2 H10 k10 e10 => ?_
    have ha10 := k10.tup _ _ ha9
    refine oo_add (o_catt ha10 e10 (Nat.le_trans (by have := cutV_length xs (some (-1)) none; omega : _ ≤ 300000) (by decide)) fun p3 H11 k11 e11 => ?_)
    walk_at "ws_5"
    have ha11 := k11.tup _ _ ha10
    refine k_rev ha11 fun p4 H12 m12 => ?_
    walk_at "ws_5"
    have ha12 := m12.get ha11
    refine k_tup (by simp; decide) fun p5 H13 m13 => ?_
    walk_at "ws_5"
    have ha13 := m13.get ha12
    refine o_slt ha13 fun p6 H14 k14 e14 => ?_
    walk_at "ws_5"
    refine k_lst (by simp; decide) fun m H15 m15 => ?_
    walk_at "ws_5"
    have k1315 : Keep NoS H13 H15 := k14.trans m15.keep
    have k1115 : Keep NoS H11 H15 := (m12.keep.trans m13.keep).trans k1315
    have k915 : Keep NoS H9 H15 := (k10.trans k11).trans k1115
    have k815 : Keep NoS H8 H15 := k9.trans k915
    have k715 : Keep NoS H7 H15 := m8.keep.trans k815
    have dd := hx0.keep (S := S) k715.of0
    have gt : ∀ (b : Addr) (zs : List V) (es : List PyData), H15 b = some (.tup zs) → DDs S H15 zs es → (∀ d ∈ es, d ∈ ds) → PyData.weightAll es ≤ 2 * w + 130 → Good S H15 (n + 1) (k + 1) (2 * w + 130) (.ref b) :=
      fun b zs es hb hz hm hw => good_tup hb hz (nice_tup (fun d hd => okD_mono (by omega) (i1 d (hm d hd))) (fun d hd => by have := i2 d (hm d hd); omega) hw)
    have wc : ∀ lo hi, PyData.weightAll (cutD ds lo hi) ≤ w := fun lo hi => Nat.le_trans wAll_cut i3
    refine more _ rfl _ H15 m _ k715 m15.at_ (by simp) (all_cons ?_ (all_cons ?_ (all_cons ?_ (all_cons ?_ (all_cons ?_ (all_cons ?_ all_nil))))))
    · exact good_lst (not_S hS (nos_free k07 m8.no)) (k815.all _ _ id m8.at_) dd (nice_list (fun d hd => okD_mono (by omega) (i1 d hd)) (fun d hd => by have := i2 d hd; omega) (by omega))
    · exact gt p1 _ _ (k915.tup _ _ e9) (dd.cut _ _) (fun d hd => cutD_mem hd) (by have := wc none (some (-1)); omega)
    · refine gt p3 _ _ (k1115.tup _ _ e11) (dd.append (dd.cut _ _)) (fun d hd => ?_) (by rw [wAll_append]; have := wc (some (-1)) none; omega)
      rcases List.mem_append.mp hd with hd | hd
      · exact hd
      · exact cutD_mem hd
    · exact gt p4 _ _ (k1315.tup _ _ (m13.get m12.at_)) dd.rev (fun d hd => List.mem_reverse.mp hd) (by rw [wAll_rev]; omega)
    · refine good_tup (k1315.tup _ _ m13.at_) (.cons (.tup (k715.tup _ _ ha) dd) .nil) (nice_tup (fun d hd => ?_) (fun d hd => ?_) ?_)
      · simp only [List.mem_cons, List.not_mem_nil, or_false] at hd
        subst hd
        exact okD_mono (by omega) hn.ok
      · simp only [List.mem_cons, List.not_mem_nil, or_false] at hd
        subst hd
        exact hn.dp
      · simp only [PyData.weightAll, PyData.weight]
        omega
    · exact gt p6 _ _ (m15.get e14) (dd.cut _ _) (fun d hd => cutD_mem hd) (by have := wc (some 1) none; omega)
  | str z =>
    refine w_iteF rfl ?_
    have := hd7.strX
    subst this
    have hz := hn.ok
    simp only [okD] at hz
    have hzl : z.length ≤ w := hn.wt
    walk_at "ws_5"
    rw [isT_str]
    refine w_iteT rfl ?_
    walk_at "ws_5"
    have s1 : ("s" : Str).length = 1 := by decide
    refine oo_add (o_adds (Nat.le_trans (by rw [s1]; omega : _ ≤ 300000) (by decide)) ?_)
    walk_at "ws_5"
    refine o_sls (Nat.le_trans (by omega : _ ≤ 300000) (by decide)) ?_
    walk_at "ws_5"
    refine ⟨⟨z, rfl⟩, z, rfl, rfl, by omega, ?_⟩
    walk_at "ws_5"
    refine k_tup (by simp; decide) fun p5 H8 m8 => ?_
    walk_at "ws_5"
    refine k_lst (by simp; decide) fun p6 H9 m9 => ?_
    walk_at "ws_5"
    refine k_lst (by simp; decide) fun m H10 m10 => ?_
    walk_at "ws_5"
    have d1 : ∀ {S : Addr → Prop} {H : Hp}, DDs S H [V.str z] [PyData.str z] := .cons (.str z) .nil
    have e1 : ∀ d ∈ [PyData.str z], okD (n + 1) d ∧ d.depth ≤ k := fun d hd => by
      simp only [List.mem_cons, List.not_mem_nil, or_false] at hd
      subst hd
      simp only [okD, PyData.depth]
      exact ⟨hz, by omega⟩
    have e2 : PyData.weightAll [PyData.str z] ≤ 2 * w + 130 := by
      have hzl : z.cps.size ≤ w := hzl
      simp only [PyData.weightAll, PyData.weight]
      omega
    refine more _ rfl _ H10 m _ ((m8.keep.trans m9.keep).trans m10.keep) m10.at_ (by simp) (all_cons ?_ (all_cons ?_ (all_cons ?_ (all_cons ?_ (all_cons ?_ all_nil)))))
    · exact good_str (str_app_ascii hz (ascii_lit (by decide))) (by rw [strLen_append, s1]; omega)
    · exact good_str (str_cut_ascii hz) (by have := cutS_length z none (some (-1)); omega)
    · exact good_str (str_upper_ascii hz).1 (by rw [(str_upper_ascii hz).2]; omega)
    · exact good_tup (m10.get (m9.get m8.at_)) d1 (nice_tup (fun d hd => (e1 d hd).1) (fun d hd => (e1 d hd).2) e2)
    · exact good_lst (not_S hS (nos_free k07 (m8.free m9.no))) (m10.get m9.at_) d1 (nice_list (fun d hd => (e1 d hd).1) (fun d hd => (e1 d hd).2) e2)
  | int i =>
    refine w_iteF rfl ?_
    have := hd7.intX
    subst this
    have hi := hn.ok
    simp only [okD] at hi
    walk_at "ws_5"
    rw [isT_str]
    refine w_iteF rfl ?_
    walk_at "ws_5"
    rw [isT_int]
    refine w_iteT rfl ?_
    walk_at "ws_5"
    refine oo_str (by have := log_ok hi (by omega); omega) ?_
    walk_at "ws_5"
    refine oo_eq ?_
    walk_at "ws_5"
    refine k_lst (by simp; decide) fun m H8 m8 => ?_
    walk_at "ws_5"
    have il : (Str.ofString (toString i)).length ≤ 33 := by
      rw [PySem.ofString_length]
      refine int_text_length_le10 (k := 32) (by decide) ?_
      have : (10 : Nat) ^ 30 + 10 ^ 30 < 10 ^ 32 := by decide +kernel
      omega
    refine more _ rfl _ H8 m _ m8.keep m8.at_ (by simp) (all_cons ?_ (all_cons ?_ (all_cons ?_ (all_cons ?_ (all_cons ?_ all_nil)))))
    · exact good_int (by omega) big (by omega)
    · exact good_int (by omega) big (by omega)
    · exact good_str (str_int_ascii i) (by omega)
    · exact good_bl
    · exact good_int (by omega) big (by omega)
  | bool b =>
    refine w_iteF rfl ?_
    have hb : bI b = 0 ∨ bI b = 1 := by cases b <;> simp [bI]
    have : x = .bl b := by cases hd7; rfl
    subst this
    walk_at "ws_5"
    rw [isT_str]
    refine w_iteF rfl ?_
    walk_at "ws_5"
    rw [isT_int]
    refine w_iteT rfl ?_
    walk_at "ws_5"
    refine oo_addb ?_
    walk_at "ws_5"
    refine oo_subb ?_
    walk_at "ws_5"
    refine oo_strb ?_
    walk_at "ws_5"
    refine oo_eqb ?_
    walk_at "ws_5"
    refine oo_negb ?_
    walk_at "ws_5"
    refine k_lst (by simp; decide) fun m H8 m8 => ?_
    walk_at "ws_5"
    refine more _ rfl _ H8 m _ m8.keep m8.at_ (by simp) (all_cons ?_ (all_cons ?_ (all_cons ?_ (all_cons ?_ (all_cons ?_ all_nil)))))
    · exact good_int (by rcases hb with hb | hb <;> rw [hb] <;> omega) big (by omega)
    · exact good_int (by rcases hb with hb | hb <;> rw [hb] <;> omega) big (by omega)
    · cases b
      · exact good_lit (by decide) (by decide) (by omega)
      · exact good_lit (by decide) (by decide) (by omega)
    · exact good_bl
    · exact good_int (by rcases hb with hb | hb <;> rw [hb] <;> omega) big (by omega)
  | none =>
    refine w_iteF rfl ?_
    walk_at "ws_5"
    rw [isT_str]
    refine w_iteF rfl ?_
    walk_at "ws_5"
    rw [isT_int]
    refine w_iteF rfl ?_
    walk_at "ws_5"
    exact o_any pt7 hN lp (.inl n7.at_) (by simp) (by simp) fun H' i v ev kp pt' => q H' v (k07.of0.trans kp) pt' ((hx v (List.mem_of_getElem? ev)).keep (kp.mono fun b hb => by rw [hb]; exact hp))
  | list ds =>
    refine w_iteF rfl ?_
    walk_at "ws_5"
    rw [isT_str]
    refine w_iteF rfl ?_
    walk_at "ws_5"
    rw [isT_int]
    refine w_iteF rfl ?_
    walk_at "ws_5"
    exact o_any pt7 hN lp (.inl n7.at_) (by simp) (by simp) fun H' i v ev kp pt' => q H' v (k07.of0.trans kp) pt' ((hx v (List.mem_of_getElem? ev)).keep (kp.mono fun b hb => by rw [hb]; exact hp))
  | dict kvs =>
    refine w_iteF rfl ?_
    walk_at "ws_5"
    rw [isT_str]
    refine w_iteF rfl ?_
    walk_at "ws_5"
    rw [isT_int]
    refine w_iteF rfl ?_
    walk_at "ws_5"
    exact o_any pt7 hN lp (.inl n7.at_) (by simp) (by simp) fun H' i v ev kp pt' => q H' v (k07.of0.trans kp) pt' ((hx v (List.mem_of_getElem? ev)).keep (kp.mono fun b hb => by rw [hb]; exact hp))
end LB

open PySem PySem.Spec PyProof.Rows L2 LB
/-! the tactic: one step of a reading; many -/
local macro_rules | `(tactic| walk_at "w1_6") => `(tactic| first
  | with_reducible refine w_seq ?_ | with_reducible refine w_asg ?_ | with_reducible refine w_drop ?_ | with_reducible refine w_ret ?_ | with_reducible refine w_next ?_
  | with_reducible refine w_ifs ?_ | with_reducible refine w_forR1 ?_ | with_reducible refine w_forR2 ?_ | with_reducible refine w_forL ?_ | with_reducible refine w_forT ?_ | with_reducible refine w_name ?_ | with_reducible refine w_sub ?_ | with_reducible refine w_par ?_
  | with_reducible refine w_var (by with_unfolding_all rfl) ?_ | with_reducible refine w_c ?_ | with_reducible refine w_op ?_ | with_reducible refine w_un ?_
  | with_reducible refine w_test ?_ | with_reducible refine w_tb ?_ | with_reducible refine w_nil ?_ | with_reducible refine w_cons ?_ | with_reducible refine w_cb ?_ | with_reducible refine w_call ?_
  | with_reducible refine w_not ?_ | with_reducible refine w_and ?_ | with_reducible refine w_or ?_ | with_reducible refine w_andV ?_ | with_reducible refine w_orV ?_ | with_reducible refine w_notV ?_
  | with_reducible refine w_ife ?_ | with_reducible refine w_chain ?_ | with_reducible refine w_bm ?_ | with_reducible refine w_sl ?_ | with_reducible refine w_part ?_ | with_reducible refine w_nopart ?_
  | with_reducible refine w_exb ?_ | with_reducible refine w_exi ?_ | with_reducible refine w_ex2 ?_ | with_reducible refine w_ex3 ?_ | with_reducible refine w_lstrg ?_ | with_reducible refine w_rg2 ?_ | with_reducible refine w_rg1 ?_ | with_reducible refine w_exij ?_ | with_reducible refine w_tup ?_ | with_reducible refine w_lst ?_
  | with_reducible refine o_add ?_ | with_reducible refine o_sub ?_ | with_reducible refine o_neg ?_ | with_reducible refine o_lt ?_ | with_reducible refine o_le ?_ | with_reducible refine o_gt ?_ | with_reducible refine o_ge ?_
  | with_reducible refine o_ixL (by assumption) (by decide) (by with_unfolding_all rfl) ?_ | with_reducible refine o_ixT (by assumption) (by decide) (by with_unfolding_all rfl) ?_
  | with_reducible refine o_mod (by first | decide | omega) ?_ | with_reducible refine o_mul (by first | decide | omega) ?_ | with_reducible refine o_fdv (by first | decide | omega) (by first | decide | omega) ?_ | with_reducible refine o_setL (by assumption) (by decide) (by simp) ?_
  | with_reducible refine oo_addi ?_ | with_reducible refine oo_sub ?_ | with_reducible refine oo_neg ?_ | with_reducible refine w_rev ?_ | with_reducible refine w_m0 ?_
  | with_reducible refine w_par3 ?_ | with_reducible refine w_tyl (by assumption) ?_
  | with_reducible refine o_abs ?_ | with_reducible refine o_eqs (by with_unfolding_all rfl) ?_ | with_reducible refine o_nes (by with_unfolding_all rfl) ?_ | with_reducible refine o_max2 ?_ | with_reducible refine o_min2 ?_ | with_reducible refine o_isiX (by assumption) ?_ | with_reducible refine o_lenl (by assumption) ?_ | with_reducible refine o_lent (by assumption) ?_ | with_reducible refine o_int1b ?_)
local macro_rules | `(tactic| walk_at "ws_6") => `(tactic| repeat (first | walk_at "w1_6" | dsimp only [List.set_cons_zero, List.set_cons_succ]))
namespace LB
/-- bent(pot, thing, j): one part otherwise -/
def spBentN (j : Nat) : Sp := fun vs H Q _ => ∃ (p : Addr) (x : V) (d : PyData) (S : Addr → Prop) (N n k w : Nat), vs = [.ref p, x, .int j] ∧ Pot H p N ∧ 3 * (j + 1) ≤ N ∧ S p ∧ (∀ b, S b → H b ≠ none) ∧ DD S H x d ∧ Nice n k w d ∧ n ≤ 900 ∧ w ≤ 100000 ∧
  ∀ (H' : Hp) (v : V), Keep (At p) H H' → Pot H' p (N - 3 * (j + 1)) → Good S H' (n + 1) (k + 1) ((j + 2) * w + 130) v → Q v H'
theorem spBentN_arity {j : Nat} {vs : List V} {H : Hp} {Q : VK} {E : XK} (h : spBentN j vs H Q E) : vs.length = 3 := by obtain ⟨_, _, _, _, _, _, _, _, rfl, _⟩ := h; rfl
def spBentR : Nat → Sp
  | 0 => fun _ _ _ _ => False
  | j + 1 => spBentN j

def t__law_bent (j : Nat) (K : PySem.W.Frag) : TS :=
  (tSeq (tIfS (tOr (tTest (tOp (rEqA K) (tVar 2) (tC (V.int 0)))) (tOr (tNot (tB (tCB (rIsi K) (tCons (tVar 1) (tCons (tC (V.ty "tuple")) tNil))))) (tOr (tTest (tOp (rEqA K) (tVar 1) (tTup tNil))) (tTest (tOp (rEqA K) (tCall spDraw [] E0 (tCons (tVar 0) (tCons (tC (V.int 5)) tNil))) (tC (V.int 0)))))))
    (tRet (tCall spOdd [] E0 (tCons (tVar 0) (tCons (tVar 1) tNil)))) tNext)
    (tSeq (tAsg (tCall spDraw [] E0 (tCons (tVar 0) (tCons (tCB (rLen K) (tCons (tVar 1) tNil)) tNil))) (gName 3))
    (tRet (tOp (rAddA K) (tOp (rAddA K) (tSl (rSlAny K) (tVar 1) tNoPart (tPart (tVar 3))) (tTup (tCons (tCall (spBentR j) [] E0 (tCons (tVar 0) (tCons (tOp (rIx K) (tVar 1) (tVar 3)) (tCons (tOp rSubI (tVar 2) (tC (V.int 1))) tNil)))) tNil))) (tSl (rSlAny K) (tVar 1) (tPart (tOp (rAddA K) (tVar 3) (tC (V.int 1)))) tNoPart)))))

theorem kept_S {S : Addr → Prop} {H H8 : Hp} {p : Addr} {n : Nat} (hS : ∀ b, S b → H b ≠ none) (k : Keep (At p) H H8) (pt : Pot H8 p n) : ∀ b, S b → H8 b ≠ none := fun b hb e => by
  by_cases h : b = p
  · subst h
    obtain ⟨xs, hx⟩ := pt.some
    rw [hx] at e
    cases e
  · cases q : H b with
    | none => exact hS b hb q
    | some o => rw [k.all b o h q] at e; cases e
theorem cutD_take {ds : List PyData} {i : Nat} (h : i ≤ ds.length) : cutD ds none (some (i : Int)) = ds.take i := by
  unfold cutD
  rw [HT.sIx_none, HT.sIx_nat, List.drop_zero, Nat.sub_zero, Nat.min_eq_left h]
theorem cutD_drop {ds : List PyData} {i : Nat} (h : i + 1 ≤ ds.length) : cutD ds (some ((i : Int) + 1)) none = ds.drop (i + 1) := by
  unfold cutD
  have e : ((i : Int) + 1) = ((i + 1 : Nat) : Int) := by omega
  rw [e, HT.sIx_none, HT.sIx_nat, Nat.min_eq_left h]
  rw [List.take_of_length_le]
  rw [List.length_drop]
  omega
theorem pure__law_bent {j : Nat} {K : PySem.W.Frag} {vs : List V} {H : Hp} {Q : VK} {E : XK} (h : spBentN j vs H Q E) : t__law_bent j K { nx := fun _ H' => Q .non H', rt := Q } (start ["pot", "thing", "deep", "at"] vs) H := by
  obtain ⟨p, x, d, S, N, n, k, w, rfl, pt, hN, hp, hS, hd, hn, n1k, hw, q⟩ := h
  show t__law_bent j K _ [some (.ref p), some x, some (.int j), none] H
  unfold t__law_bent
  have jw : 2 * w ≤ (j + 2) * w := Nat.mul_le_mul_right _ (by omega)
  -- another value for it
  have odd : ∀ (H8 : Hp) (M : Nat), Keep (At p) H H8 → Pot H8 p M → N - 3 * (j + 1) + 1 ≤ M → spOdd [.ref p, x] H8 Q E0 := by
    intro H8 M k8 pt8 hM
    refine ⟨p, x, d, S, M, n, k, w, rfl, pt8, by omega, hp, kept_S hS k8 pt8, hd.keep (k8.mono fun b hb => by rw [hb]; exact hp), hn, n1k, by omega, fun H' v kp pt' g => ?_⟩
    exact q H' v (k8.trans kp) (pt'.le (by omega)) (g.mono (by omega) (by omega) (by omega))
  walk_at "ws_6"
  cases j with
  | zero =>
    refine w_iteT rfl ?_
    refine w_iteT rfl ?_
    walk_at "ws_6"
    exact odd H N (Keep.refl _ _) pt (by omega)
  | succ j =>
    refine w_iteF (by simp; omega) ?_
    walk_at "ws_6"
    rw [isT_tuple]
    cases d with
    | tuple ds =>
      refine w_iteF rfl ?_
      obtain ⟨a, xs, rfl, ha, hx⟩ := hd.tupX
      obtain ⟨i1, i2, i3⟩ := hn.items
      have hl := hx.length
      have hlen : xs.length ≤ w := by
        have := wAll_len (xs := ds)
        omega
      walk_at "ws_6"
      refine k_tup (by simp) fun t H1 n1 => ?_
      have ha1 := n1.get ha
      have pt1 := pt.new n1
      refine .inr (.inr (.inl ⟨a, t, xs, rfl, rfl, ha1, n1.at_, ?_⟩))
      walk_at "ws_6"
      refine w_iteb (fun c1 => ?_) (fun c1 => ?_)
      · refine w_iteT rfl ?_
        walk_at "ws_6"
        exact odd H1 N n1.keep pt1 (by omega)
      · walk_at "ws_6"
        refine o_draw pt1 (by omega) (by omega) (by omega) fun H2 z kp2 pt2 z0 z1 => ?_
        have k02 : Keep (At p) H H2 := n1.keep.trans kp2
        have ha2 := kp2.tup _ _ ha1
        walk_at "ws_6"
        refine w_iteb (fun c2 => ?_) (fun c2 => ?_)
        · walk_at "ws_6"
          exact odd H2 _ k02 pt2 (by omega)
        · walk_at "ws_6"
          have hpos : 1 ≤ xs.length := by
            cases xs with
            | nil => cases c1
            | cons _ _ => simp
          refine o_draw pt2 (by omega) (by omega) (by omega) fun H3 y kp3 pt3 y0 y1 => ?_
          obtain ⟨i, rfl⟩ := Int.eq_ofNat_of_zero_le y0
          have hi : i < xs.length := by omega
          have k03 := k02.trans kp3
          have ha3 := kp3.tup _ _ ha2
          walk_at "ws_6"
          refine o_slt ha3 fun p1 H4 k4 e4 => ?_
          walk_at "ws_6"
          have ha4 := k4.tup _ _ ha3
          have ev : xs[i]? = some xs[i] := List.getElem?_eq_getElem hi
          refine o_ixT (v := xs[i]) ha4 (by omega) ev ?_
          walk_at "ws_6"
          obtain ⟨di, edi, hdi⟩ := hx.get ev
          have hdm : di ∈ ds := List.mem_of_getElem? edi
          have k04 : Keep (At p) H H4 := k03.trans k4.of0
          have pt4 := pt3.keep k4
          have kS : ∀ {A B : Hp}, Keep (At p) A B → Keep S A B := fun k => k.mono fun b hb => by rw [hb]; exact hp
          have kk : k - 1 + 1 = k := by have := i2 di hdm; omega
          have hwi : di.weight ≤ w := by have := wAll_mem hdm; omega
          refine ⟨p, xs[i], di, S, N - 1 - 1, n, k - 1, di.weight, by rw [show (((j + 1 : Nat) : Int) - 1) = (j : Int) by omega], pt4, by omega, hp, kept_S hS k04 pt4, hdi.keep (kS k04), ⟨i1 di hdm, by have := i2 di hdm; omega, Nat.le_refl _⟩, n1k, by omega, fun H5 v kp5 pt5 gv => ?_⟩
          rw [kk] at gv
          walk_at "ws_6"
          refine k_tup (by simp; decide) fun u H6 n6 => ?_
          have e6 := n6.get (kp5.tup _ _ e4)
          refine o_catt e6 n6.at_ (Nat.le_trans (by have := cutV_length xs none (some (i : Int)); simp; omega : _ ≤ 300000) (by decide)) fun p2 H7 k7 e7 => ?_
          walk_at "ws_6"
          have ha7 := k7.tup _ _ (n6.get (kp5.tup _ _ ha4))
          refine o_slt ha7 fun p3 H8 k8 e8 => ?_
          have e78 := k8.tup _ _ e7
          have l1 := cutV_length xs none (some (i : Int))
          have l2 := cutV_length xs (some ((i : Int) + 1)) none
          refine o_catt e78 e8 (Nat.le_trans (by simp; omega : _ ≤ 300000) (by decide)) fun p4 H9 k9 e9 => ?_
          walk_at "ws_6"
          have k59 : Keep NoS H5 H9 := ((n6.keep.trans k7).trans k8).trans k9
          have k09 : Keep (At p) H H9 := (k04.trans kp5).trans k59.of0
          obtain ⟨dv, hdv, nv⟩ := gv
          have hx9 := hx.keep (kS k09)
          refine q H9 (.ref p4) k09 ((pt5.keep k59).le (by omega)) ?_
          have hil : i + 1 ≤ ds.length := by omega
          have c1 := hx9.cut none (some (i : Int))
          have c2 := hx9.cut (some ((i : Int) + 1)) none
          rw [cutD_take (by omega)] at c1
          rw [cutD_drop hil] at c2
          refine good_tup e9 ((c1.append (.cons (hdv.keep k59.of0) .nil)).append c2) (nice_tup (fun e he => ?_) (fun e he => ?_) ?_)
          · rcases List.mem_append.mp he with he | he
            · rcases List.mem_append.mp he with he | he
              · exact okD_mono (by omega) (i1 e (List.mem_of_mem_take he))
              · simp only [List.mem_cons, List.not_mem_nil, or_false] at he
                subst he
                exact nv.ok
            · exact okD_mono (by omega) (i1 e (List.mem_of_mem_drop he))
          · rcases List.mem_append.mp he with he | he
            · rcases List.mem_append.mp he with he | he
              · have := i2 e (List.mem_of_mem_take he); omega
              · simp only [List.mem_cons, List.not_mem_nil, or_false] at he
                subst he
                exact nv.dp
            · have := i2 e (List.mem_of_mem_drop he); omega
          · have w1 := wAll_take (xs := ds) (k := i)
            have edi' : ds[i] = di := by
              have := List.getElem?_eq_getElem (l := ds) (i := i) (by omega)
              rw [this] at edi
              exact Option.some.inj edi
            rw [List.drop_eq_getElem_cons (by omega), edi'] at w1
            simp only [PyData.weightAll] at w1
            rw [wAll_append, wAll_append]
            simp only [PyData.weightAll]
            have w2 := nv.wt
            have w3 : (j + 1 + 2) * w = (j + 2) * w + w := by rw [Nat.add_right_comm j 1 2, Nat.add_mul (j + 2) 1 w, Nat.one_mul]
            have w4 : (j + 2) * di.weight ≤ (j + 2) * w := Nat.mul_le_mul_left _ hwi
            omega
    | _ =>
      refine w_iteT rfl ?_
      refine w_iteT rfl ?_
      walk_at "ws_6"
      exact odd H N (Keep.refl _ _) pt (by omega)
end LB

open PySem PySem.Spec PyProof.Rows L2 LB
/-! the tactic: one step of a reading; many -/
local macro_rules | `(tactic| walk_at "w1_7") => `(tactic| first
  | with_reducible refine w_seq ?_ | with_reducible refine w_asg ?_ | with_reducible refine w_drop ?_ | with_reducible refine w_ret ?_ | with_reducible refine w_next ?_
  | with_reducible refine w_ifs ?_ | with_reducible refine w_forR1 ?_ | with_reducible refine w_forR2 ?_ | with_reducible refine w_forL ?_ | with_reducible refine w_forT ?_ | with_reducible refine w_name ?_ | with_reducible refine w_sub ?_ | with_reducible refine w_par ?_
  | with_reducible refine w_var (by with_unfolding_all rfl) ?_ | with_reducible refine w_c ?_ | with_reducible refine w_op ?_ | with_reducible refine w_un ?_
  | with_reducible refine w_test ?_ | with_reducible refine w_tb ?_ | with_reducible refine w_nil ?_ | with_reducible refine w_cons ?_ | with_reducible refine w_cb ?_ | with_reducible refine w_call ?_
  | with_reducible refine w_not ?_ | with_reducible refine w_and ?_ | with_reducible refine w_or ?_ | with_reducible refine w_andV ?_ | with_reducible refine w_orV ?_ | with_reducible refine w_notV ?_
  | with_reducible refine w_ife ?_ | with_reducible refine w_chain ?_ | with_reducible refine w_bm ?_ | with_reducible refine w_sl ?_ | with_reducible refine w_part ?_ | with_reducible refine w_nopart ?_
  | with_reducible refine w_exb ?_ | with_reducible refine w_exi ?_ | with_reducible refine w_ex2 ?_ | with_reducible refine w_ex3 ?_ | with_reducible refine w_lstrg ?_ | with_reducible refine w_rg2 ?_ | with_reducible refine w_rg1 ?_ | with_reducible refine w_exij ?_ | with_reducible refine w_tup ?_ | with_reducible refine w_lst ?_
  | with_reducible refine o_add ?_ | with_reducible refine o_sub ?_ | with_reducible refine o_neg ?_ | with_reducible refine o_lt ?_ | with_reducible refine o_le ?_ | with_reducible refine o_gt ?_ | with_reducible refine o_ge ?_
  | with_reducible refine o_ixL (by assumption) (by decide) (by with_unfolding_all rfl) ?_ | with_reducible refine o_ixT (by assumption) (by decide) (by with_unfolding_all rfl) ?_
  | with_reducible refine o_mod (by first | decide | omega) ?_ | with_reducible refine o_mul (by first | decide | omega) ?_ | with_reducible refine o_fdv (by first | decide | omega) (by first | decide | omega) ?_ | with_reducible refine o_setL (by assumption) (by decide) (by simp) ?_
  | with_reducible refine oo_addi ?_ | with_reducible refine oo_sub ?_ | with_reducible refine oo_neg ?_ | with_reducible refine w_rev ?_ | with_reducible refine w_m0 ?_
  | with_reducible refine w_par3 ?_ | with_reducible refine w_tyl (by assumption) ?_
  | with_reducible refine o_abs ?_ | with_reducible refine o_eqs (by with_unfolding_all rfl) ?_ | with_reducible refine o_nes (by with_unfolding_all rfl) ?_ | with_reducible refine o_max2 ?_ | with_reducible refine o_min2 ?_ | with_reducible refine o_isiX (by assumption) ?_ | with_reducible refine o_lenl (by assumption) ?_ | with_reducible refine o_lent (by assumption) ?_ | with_reducible refine o_int1b ?_)
local macro_rules | `(tactic| walk_at "ws_7") => `(tactic| repeat (first | walk_at "w1_7" | dsimp only [List.set_cons_zero, List.set_cons_succ]))
namespace LB
def spRight : Sp := fun vs H Q _ => ∃ (p : Addr) (N : Nat), vs = [.ref p] ∧ Pot H p N ∧ 3000 ≤ N ∧ ∀ H', Keep (At p) H H' → Q (.bl true) H'
theorem spRight_arity {vs : List V} {H : Hp} {Q : VK} {E : XK} (h : spRight vs H Q E) : vs.length = 1 := by obtain ⟨_, _, rfl, _⟩ := h; rfl

def t__law_right_1 (K : PySem.W.Frag) : TS :=
  (tSeq (tAsg (tCall (spBentN 2) [] E0 (tCons (tVar 0) (tCons (tVar 3) (tCons (tC (V.int 2)) tNil)))) (gName 5))
    (tDrop (tBM K "list" rExtendA (tVar 2) (tCons (tLst (tCons (tVar 5) (tCons (tCall (spBentN 2) [] E0 (tCons (tVar 0) (tCons (tVar 5) (tCons (tC (V.int 2)) tNil)))) tNil))) tNil))))

def t__law_right_2 (K : PySem.W.Frag) : TS :=
  (tSeq (tDrop (tBM K "list" rAppend (tVar 2) (tCons (tVar 3) tNil)))
    (tFor (iRng1 (tCons (tC (V.int 4)) tNil)) (gName 4)
    (t__law_right_1 K)))

def t__law_right_3 (K : PySem.W.Frag) : TS :=
  (tSeq (tPar 7 8 (tCons (tCB rRepr (tCons (tVar 6) tNil)) (tCons (tCall spIsCall [] E0 (tCons (tVar 6) tNil)) tNil)))
    (tIfS (tOr (tTest (tOp (rNeA K) (tCB rRepr (tCons (tLst (tCons (tCall spIsOp [] E0 (tCons (tVar 6) tNil)) (tCons (tCallW spIsOp (fun {α : Type} (us ws : List α) => [(ws.drop 0).head?].filterMap id) 1 E0 (tCons (tVar 6) tNil)) tNil))) tNil)) (tCB rRepr (tCons (tLst (tCons (tVar 8) (tCons (tVar 8) tNil))) tNil)))) (tTest (tOp (rNeA K) (tCB rRepr (tCons (tVar 6) tNil)) (tVar 7))))
    (tRet (tC (V.bl false))) tNext))

def t__law_right (K : PySem.W.Frag) : TS :=
  (tSeq (tAsg (tOp rPowI (tC (V.int 10)) (tC (V.int 15))) (gName 1))
    (tSeq (tAsg (tLst (tCons (tTup (tCons (tC (V.str "write")) (tCons (tOp rPowI (tC (V.int 10)) (tC (V.int 9))) (tCons (tUn rNegI (tVar 1)) (tCons (tVar 1) tNil))))) (tCons (tTup (tCons (tC (V.str "write")) (tCons (tOp (rAddA K) (tOp rPowI (tC (V.int 10)) (tC (V.int 9))) (tC (V.int 1))) (tCons (tC (V.int 0)) (tCons (tC (V.int 0)) tNil))))) (tCons (tTup (tCons (tC (V.str "read")) (tCons (tC (V.int 0)) (tCons (tVar 1) (tCons (tVar 1) tNil))))) (tCons (tTup (tCons (tC (V.str "write")) (tCons (tC (V.int 0)) (tCons (tC (V.int 0)) (tCons (tC (V.int 0)) tNil))))) tNil))))) (gName 2))
    (tSeq (tAsg (tOp (rAddA K) (tVar 2) (tLst (tCons (tTup (tCons (tC (V.str "read")) (tCons (tC (V.int 0)) (tCons (tOp rSubI (tUn rNegI (tVar 1)) (tC (V.int 1))) (tCons (tC (V.int 0)) tNil))))) (tCons (tTup (tCons (tC (V.str "read")) (tCons (tC (V.int 0)) (tCons (tC (V.int 0)) (tCons (tOp (rAddA K) (tVar 1) (tC (V.int 1))) tNil))))) (tCons (tTup (tCons (tC (V.str "read")) (tCons (tUn rNegI (tC (V.int 1))) (tCons (tC (V.int 0)) (tCons (tC (V.int 0)) tNil))))) (tCons (tTup (tCons (tC (V.str "read")) (tCons (tC (V.int 3)) (tCons (tC (V.int 1)) (tCons (tC (V.int 0)) tNil))))) tNil)))))) (gName 2))
    (tSeq (tAsg (tOp (rAddA K) (tVar 2) (tLst (tCons (tTup (tCons (tC (V.str "read")) (tCons (tC (V.bl true)) (tCons (tC (V.int 0)) (tCons (tC (V.int 0)) tNil))))) (tCons (tTup (tCons (tC (V.str "read")) (tCons (tC (V.int 1)) (tCons (tC (V.bl false)) (tCons (tC (V.int 0)) tNil))))) (tCons (tTup (tCons (tC (V.str "read")) (tCons (tC (V.int 1)) (tCons (tC (V.int 0)) (tCons (tC (V.bl true)) tNil))))) (tCons (tLst (tCons (tC (V.str "read")) (tCons (tC (V.int 1)) (tCons (tC (V.int 0)) (tCons (tC (V.int 0)) tNil))))) (tCons (tC (V.str "read")) (tCons (tC V.non) tNil)))))))) (gName 2))
    (tSeq (tAsg (tOp (rAddA K) (tVar 2) (tLst (tCons (tTup (tCons (tC (V.str "read")) (tCons (tC (V.int 1)) (tCons (tC (V.int 0)) tNil)))) (tCons (tTup (tCons (tC (V.str "read")) (tCons (tC (V.int 1)) (tCons (tC (V.int 0)) (tCons (tC (V.int 0)) (tCons (tC (V.int 0)) tNil)))))) (tCons (tTup (tCons (tC (V.str "Read")) (tCons (tC (V.int 1)) (tCons (tC (V.int 0)) (tCons (tC (V.int 0)) tNil))))) (tCons (tTup (tCons (tC (V.int 0)) (tCons (tC (V.int 1)) (tCons (tC (V.int 0)) (tCons (tC (V.int 0)) tNil))))) (tCons (tTup tNil) (tCons (tLst tNil) (tCons tDNewK (tCons (tC (V.int 0)) (tCons (tC (V.bl true)) (tCons (tC (V.str "")) tNil)))))))))))) (gName 2))
    (tSeq (tDrop (tBM K "list" rAppend (tVar 2) (tCons (tTup (tCons (tTup (tCons (tC (V.str "read")) tNil)) (tCons (tC (V.int 1)) (tCons (tC (V.int 0)) (tCons (tC (V.int 0)) tNil))))) tNil)))
    (tSeq (tFor (iSeq K (tOp (rAddA K) (tCall spWild [] E0 (tCons (tVar 0) (tCons (tC (V.int 12)) (tCons (tC (V.int 20)) tNil)))) (tCall spTrue [] E0 (tCons (tVar 0) (tCons (tC (V.int 6)) (tCons (tC (V.int 3)) (tCons (tC (V.int 5)) tNil))))))) (gName 3)
    (t__law_right_2 K))
    (tSeq (tFor (iSeq K (tVar 2)) (gName 6)
    (t__law_right_3 K))
    (tRet (tC (V.bl true)))))))))))

def flatOk : V → Bool
  | .non => true
  | .bl _ => true
  | .int i => decide (i.natAbs ≤ 10 ^ 30)
  | .str x => x.cps.toList.all (fun c => decide (c < 128)) && decide (x.length ≤ 30)
  | _ => false
theorem good_flat {S : Addr → Prop} {H : Hp} {n k w : Nat} {v : V} (h : flatOk v = true) (hn : n ≤ 10 ^ 30) (hw : 101 ≤ w) : Good S H n k w v := by
  cases v with
  | non => exact good_non
  | bl b => exact good_bl
  | int i => exact good_int (by simp only [flatOk, decide_eq_true_eq] at h; omega) hn hw
  | str x =>
    simp only [flatOk, Bool.and_eq_true, decide_eq_true_eq] at h
    exact good_lit h.1 h.2 (by omega)
  | _ => cases h
theorem good_tupG {S : Addr → Prop} {H : Hp} {n k w m : Nat} {a : Addr} {xs : List V} (e : H a = some (.tup xs)) (h : ∀ v ∈ xs, Good S H n k m v) (hw : xs.length * (m + 1) ≤ w) : Good S H n (k + 1) w (.ref a) := by
  obtain ⟨ds, h1, h2⟩ := dds_of_all (P := Nice n k m) h
  refine good_tup e h1 (nice_tup (fun d hd => (h2 d hd).ok) (fun d hd => (h2 d hd).dp) (Nat.le_trans ?_ hw))
  rw [h1.length]
  clear h1 hw h e
  induction ds with
  | nil => simp [PyData.weightAll]
  | cons d ds ih =>
    have h3 := (h2 d List.mem_cons_self).wt
    have h4 := ih fun e he => h2 e (List.mem_cons_of_mem _ he)
    simp only [PyData.weightAll, List.length_cons]
    rw [Nat.add_mul, Nat.one_mul]
    omega
theorem good_lstG {S : Addr → Prop} {H : Hp} {n k w m : Nat} {a : Addr} {xs : List V} (ha : ¬ S a) (e : H a = some (.lst xs)) (h : ∀ v ∈ xs, Good S H n k m v) (hw : xs.length * (m + 1) ≤ w) : Good S H n (k + 1) w (.ref a) := by
  obtain ⟨ds, h1, h2⟩ := dds_of_all (P := Nice n k m) h
  refine good_lst ha e h1 (nice_list (fun d hd => (h2 d hd).ok) (fun d hd => (h2 d hd).dp) (Nat.le_trans ?_ hw))
  rw [h1.length]
  clear h1 hw h e
  induction ds with
  | nil => simp [PyData.weightAll]
  | cons d ds ih =>
    have h3 := (h2 d List.mem_cons_self).wt
    have h4 := ih fun e he => h2 e (List.mem_cons_of_mem _ he)
    simp only [PyData.weightAll, List.length_cons]
    rw [Nat.add_mul, Nat.one_mul]
    omega
theorem big2 : 2 ≤ 10 ^ 30 := by decide +kernel
/-- a tuple of scalars -/
theorem good_T {S : Addr → Prop} {H : Hp} {a : Addr} {xs : List V} (e : H a = some (.tup xs)) (h : xs.all flatOk = true) (hl : xs.length ≤ 5) : Good S H 2 3 7178 (.ref a) := by
  refine (good_tupG (n := 2) (k := 0) (m := 101) (w := 510) e (fun v hv => good_flat ((List.all_eq_true.mp h) v hv) big2 (by omega)) ?_).mono (by omega) (by omega) (by omega)
  have : xs.length * (101 + 1) ≤ 5 * (101 + 1) := Nat.mul_le_mul_right _ hl
  omega
theorem good_L {S : Addr → Prop} {H : Hp} {a : Addr} {xs : List V} (ha : ¬ S a) (e : H a = some (.lst xs)) (h : xs.all flatOk = true) (hl : xs.length ≤ 5) : Good S H 2 3 7178 (.ref a) := by
  refine (good_lstG (n := 2) (k := 0) (m := 101) (w := 510) ha e (fun v hv => good_flat ((List.all_eq_true.mp h) v hv) big2 (by omega)) ?_).mono (by omega) (by omega) (by omega)
  have : xs.length * (101 + 1) ≤ 5 * (101 + 1) := Nat.mul_le_mul_right _ hl
  omega
theorem good_F {S : Addr → Prop} {H : Hp} {v : V} (h : flatOk v = true) : Good S H 2 3 7178 v := good_flat h big2 (by omega)
theorem op_nice {o : Op} (h : o.ok) : Nice 0 1 408 o.dat := by
  obtain ⟨_, h1, h2, h3, h4, h5⟩ := h
  have b : ∀ i : Int, -1000000000000000 ≤ i → i ≤ 1000000000000000 → okD 0 (.int i) ∧ (PyData.int i).weight ≤ 101 := fun i a c => by
    have : (1000000000000000 : Nat) ≤ 10 ^ 30 := by decide +kernel
    have q := nice_int (n := 0) (k := 0) (w := 101) (i := i) (by omega) (by omega) (by omega)
    exact ⟨q.ok, q.wt⟩
  have s : okD 0 (.str (kindS o.w)) ∧ (PyData.str (kindS o.w)).weight ≤ 101 := by
    simp only [okD, PyData.weight]
    cases o.w
    · exact ⟨ascii_lit (by decide), by decide⟩
    · exact ⟨ascii_lit (by decide), by decide⟩
  have v1 := b o.v (by omega) (by omega)
  have v2 := b o.b (by omega) (by omega)
  have v3 := b o.e (by omega) (by omega)
  refine nice_tup (fun d hd => ?_) (fun d hd => ?_) ?_
  · simp only [List.mem_cons, List.not_mem_nil, or_false] at hd
    rcases hd with rfl | rfl | rfl | rfl
    · exact s.1
    · exact v1.1
    · exact v2.1
    · exact v3.1
  · simp only [List.mem_cons, List.not_mem_nil, or_false] at hd
    rcases hd with rfl | rfl | rfl | rfl <;> simp only [PyData.depth] <;> omega
  · have := s.2
    have := v1.2
    have := v2.2
    have := v3.2
    simp only [PyData.weightAll]
    omega
theorem Good.toS {S S' : Addr → Prop} {H : Hp} {n k w : Nat} {v : V} (h : Good S H n k w v) (m : ∀ b, H b ≠ none → S' b → S b) : Good S' H n k w v := let ⟨d, h1, h2⟩ := h; ⟨d, h1.mono m, h2⟩
theorem o_repr {S : Addr → Prop} {H : Hp} {Q : VK} {x : V} {d : PyData} {n k w : Nat} (hd : DD S H x d) (hn : Nice n k w d) (h1 : n ≤ 1000) (h2 : k ≤ 60) (h3 : w ≤ 300000) (q : Q (.str d.shown) H) : rRepr [x] H Q :=
  have h := hn.shows h1 h2 h3
  ⟨x, d, S, rfl, hd, h.1, h.2.1, h.2.2, q⟩
theorem w_callW {sp : Sp} {pi : {α : Type} → List α → List α → List α} {m : Nat} {E : XK} {tk : TA} {σ : LB.St} {H : Hp} {Q : VK} (h : tk σ H fun zs H1 => zs.length = m ∧ sp (pi [] zs) H1 Q E) : tCallW sp pi m E tk σ H Q := h
theorem bools_nice {b c : Bool} : Nice 0 1 2 (.list [.bool b, .bool c]) := by
  refine nice_list (fun d hd => ?_) (fun d hd => ?_) (by simp only [PyData.weightAll, PyData.weight]; omega)
  · simp only [List.mem_cons, List.not_mem_nil, or_false] at hd
    rcases hd with rfl | rfl <;> simp only [okD]
  · simp only [List.mem_cons, List.not_mem_nil, or_false] at hd
    rcases hd with rfl | rfl <;> simp only [PyData.depth] <;> omega
theorem some_more {K : PySem.W.Frag} {H : Hp} {P : Hp → V → Prop} {R : V → Hp → Prop} {l m : Addr} {xs ys : List V} (hP : ∀ {v : V} {H H1 : Hp}, P H v → Keep NoS H H1 → P H1 v)
    (e1 : H l = some (.lst xs)) (e2 : H m = some (.lst ys)) (z1 : xs.length ≤ 100) (z2 : ys.length ≤ 100) (h1 : ∀ v ∈ xs, P H v) (h2 : ∀ v ∈ ys, P H v)
    (r : ∀ q H9 zs, New H H9 q (.lst zs) → zs.length = xs.length + ys.length → (∀ v ∈ zs, P H v) → R (.ref q) H9) :
    rAddA K (.ref l) (.ref m) H R :=
  o_addL e1 e2 (Nat.le_trans (by omega : _ ≤ 1000) (by decide)) fun q2 H2 n2 => r q2 H2 _ n2 (by rw [List.length_append]) (all_app h1 h2)
/-- loop 1: what holds between two turns -/
def RI (p s : Addr) (H0 : Hp) (x3 : Option V) (σ : LB.St) (H' : Hp) (n M : Nat) : Prop := ∃ (zs : List V) (x4 x5 : Option V), σ = [some (.ref p), some (.int 1000000000000000), some (.ref s), x3, x4, x5, none, none, none] ∧
  Keep (At p) H0 H' ∧ Pot H' p M ∧ H' s = some (.lst zs) ∧ zs.length ≤ n ∧ ∀ v ∈ zs, Good (Or2 p s) H' 2 3 7178 v
theorem pure__law_right {K : PySem.W.Frag} {vs : List V} {H : Hp} {Q : VK} {E : XK} (h : spRight vs H Q E) : t__law_right K { nx := fun _ H' => Q .non H', rt := Q } (start ["pot", "far", "some", "one", "turn", "bent", "thing", "kept", "due"] vs) H := by
  obtain ⟨p, N, rfl, pt, hN, q⟩ := h
  show t__law_right K _ [some (.ref p), none, none, none, none, none, none, none, none] H
  unfold t__law_right
  walk_at "ws_7"
  refine o_pow ⟨by decide, by decide +kernel⟩ ?_
  walk_at "ws_7"
  rw [show (10 : Int) ^ (15 : Int).toNat = 1000000000000000 by decide +kernel]
  refine o_pow ⟨by decide, by decide +kernel⟩ ?_
  walk_at "ws_7"
  rw [show (10 : Int) ^ (9 : Int).toNat = 1000000000 by decide +kernel]
  refine k_tup (by simp; decide) fun a1 A1 m1 => ?_
  walk_at "ws_7"
  refine o_pow ⟨by decide, by decide +kernel⟩ ?_
  walk_at "ws_7"
  rw [show (10 : Int) ^ (9 : Int).toNat = 1000000000 by decide +kernel]
  refine k_tup (by simp; decide) fun a2 A2 m2 => ?_
  walk_at "ws_7"
  refine k_tup (by simp; decide) fun a3 A3 m3 => ?_
  walk_at "ws_7"
  refine k_tup (by simp; decide) fun a4 A4 m4 => ?_
  walk_at "ws_7"
  refine k_lst (by simp; decide) fun l1 A5 m5 => ?_
  have g1 : ∀ v ∈ [V.ref a1, V.ref a2, V.ref a3, V.ref a4], Good (At p) A5 2 3 7178 v :=
    all_cons (good_T (m5.get (m4.get (m3.get (m2.get m1.at_)))) (by decide +kernel) (by simp)) (all_cons (good_T (m5.get (m4.get (m3.get m2.at_))) (by decide +kernel) (by simp))
      (all_cons (good_T (m5.get (m4.get m3.at_)) (by decide +kernel) (by simp)) (all_cons (good_T (m5.get m4.at_) (by decide +kernel) (by simp)) all_nil)))
  have kA : Keep NoS H A5 := (((m1.keep.trans m2.keep).trans m3.keep).trans m4.keep).trans m5.keep
  have hl1 := m5.at_
  generalize hx1 : [V.ref a1, V.ref a2, V.ref a3, V.ref a4] = xs1 at g1 hl1 ⊢
  have z1 : xs1.length = 4 := by rw [← hx1]; rfl
  clear m1 m2 m3 m4 m5
  walk_at "ws_7"
  -- the second four
  refine k_tup (by simp; decide) fun b1 B1 m1 => ?_
  walk_at "ws_7"
  refine k_tup (by simp; decide) fun b2 B2 m2 => ?_
  walk_at "ws_7"
  refine k_tup (by simp; decide) fun b3 B3 m3 => ?_
  walk_at "ws_7"
  refine k_tup (by simp; decide) fun b4 B4 m4 => ?_
  walk_at "ws_7"
  refine k_lst (by simp; decide) fun l2 B5 m5 => ?_
  walk_at "ws_7"
  have kB : Keep NoS A5 B5 := (((m1.keep.trans m2.keep).trans m3.keep).trans m4.keep).trans m5.keep
  refine some_more (P := fun H v => Good (At p) H 2 3 7178 v) (fun h e => h.keep e.of0) (kB.all _ _ id hl1) m5.at_ (by omega) (by simp) (fun v hv => (g1 v hv).keep kB.of0)
    (all_cons (good_T (m5.get (m4.get (m3.get (m2.get m1.at_)))) (by decide +kernel) (by simp)) (all_cons (good_T (m5.get (m4.get (m3.get m2.at_))) (by decide +kernel) (by simp))
      (all_cons (good_T (m5.get (m4.get m3.at_)) (by decide +kernel) (by simp)) (all_cons (good_T (m5.get m4.at_) (by decide +kernel) (by simp)) all_nil)))) fun l3 B6 xs2 n6 z2 g2 => ?_
  have k2 : Keep NoS H B6 := (kA.trans kB).trans n6.keep
  have g2 : ∀ v ∈ xs2, Good (At p) B6 2 3 7178 v := fun v hv => (g2 v hv).keep n6.keep
  have hl3 := n6.at_
  have z2 : xs2.length = 8 := by rw [z2, z1]; rfl
  clear m1 m2 m3 m4 m5 kA kB hl1 g1 hx1 n6
  walk_at "ws_7"
  -- the third
  refine k_tup (by simp; decide) fun c1 C1 m1 => ?_
  walk_at "ws_7"
  refine k_tup (by simp; decide) fun c2 C2 m2 => ?_
  walk_at "ws_7"
  refine k_tup (by simp; decide) fun c3 C3 m3 => ?_
  walk_at "ws_7"
  refine k_lst (by simp; decide) fun c4 C4 m4 => ?_
  walk_at "ws_7"
  refine k_lst (by simp; decide) fun l4 C5 m5 => ?_
  walk_at "ws_7"
  have hP : ∀ b, At p b → H b ≠ none := fun b hb e => by
    rw [hb] at e
    obtain ⟨ys, hy⟩ := pt.some
    rw [hy] at e
    cases e
  have kC3 : Keep NoS B6 C3 := (m1.keep.trans m2.keep).trans m3.keep
  have kC : Keep NoS B6 C5 := (kC3.trans m4.keep).trans m5.keep
  refine some_more (P := fun H v => Good (At p) H 2 3 7178 v) (fun h e => h.keep e.of0) (kC.all _ _ id hl3) m5.at_ (by omega) (by simp) (fun v hv => (g2 v hv).keep kC.of0)
    (all_cons (good_T (m5.get (m4.get (m3.get (m2.get m1.at_)))) (by decide +kernel) (by simp)) (all_cons (good_T (m5.get (m4.get (m3.get m2.at_))) (by decide +kernel) (by simp))
      (all_cons (good_T (m5.get (m4.get m3.at_)) (by decide +kernel) (by simp)) (all_cons (good_L (not_S hP (nos_free (k2.trans kC3) m4.no)) (m5.get m4.at_) (by decide +kernel) (by simp)) (all_cons (good_F (by decide)) (all_cons (good_F (by decide)) all_nil)))))) fun l5 C6 xs3 n6 z3 g3 => ?_
  have k3 : Keep NoS H C6 := (k2.trans kC).trans n6.keep
  have g3 : ∀ v ∈ xs3, Good (At p) C6 2 3 7178 v := fun v hv => (g3 v hv).keep n6.keep
  have hl5 := n6.at_
  have z3 : xs3.length = 14 := by rw [z3, z2]; rfl
  clear m1 m2 m3 m4 m5 kC3 kC k2 hl3 g2 n6
  walk_at "ws_7"
  -- the fourth
  refine k_tup (by simp; decide) fun d1 D1 m1 => ?_
  walk_at "ws_7"
  refine k_tup (by simp; decide) fun d2 D2 m2 => ?_
  walk_at "ws_7"
  refine k_tup (by simp; decide) fun d3 D3 m3 => ?_
  walk_at "ws_7"
  refine k_tup (by simp; decide) fun d4 D4 m4 => ?_
  walk_at "ws_7"
  refine k_tup (by simp) fun d5 D5 m5 => ?_
  walk_at "ws_7"
  refine k_lst (by simp) fun d6 D6 m6 => ?_
  walk_at "ws_7"
  refine w_dnew fun d7 D7 m7 => ?_
  walk_at "ws_7"
  refine k_lst (by simp; decide) fun l6 D8 m8 => ?_
  walk_at "ws_7"
  have kD5 : Keep NoS C6 D5 := (((m1.keep.trans m2.keep).trans m3.keep).trans m4.keep).trans m5.keep
  have kD : Keep NoS C6 D8 := ((kD5.trans m6.keep).trans m7.keep).trans m8.keep
  refine some_more (P := fun H v => Good (At p) H 2 3 7178 v) (fun h e => h.keep e.of0) (kD.all _ _ id hl5) m8.at_ (by omega) (by simp) (fun v hv => (g3 v hv).keep kD.of0)
    (all_cons (good_T (m8.get (m7.get (m6.get (m5.get (m4.get (m3.get (m2.get m1.at_))))))) (by decide +kernel) (by simp)) (all_cons (good_T (m8.get (m7.get (m6.get (m5.get (m4.get (m3.get m2.at_)))))) (by decide +kernel) (by simp))
      (all_cons (good_T (m8.get (m7.get (m6.get (m5.get (m4.get m3.at_))))) (by decide +kernel) (by simp)) (all_cons (good_T (m8.get (m7.get (m6.get (m5.get m4.at_)))) (by decide +kernel) (by simp)) (all_cons (good_T (m8.get (m7.get (m6.get m5.at_))) (by decide +kernel) (by simp))
        (all_cons (good_L (not_S hP (nos_free (k3.trans kD5) m6.no)) (m8.get (m7.get m6.at_)) (by decide +kernel) (by simp)) (all_cons ⟨_, .dct (not_S hP (nos_free (k3.trans (kD5.trans m6.keep)) m7.no)) (m8.get m7.at_) .nil, nice_dict⟩ (all_cons (good_F (by decide)) (all_cons (good_F (by decide)) (all_cons (good_F (by decide)) all_nil)))))))))) fun s D9 xs4 n9 z4 g4 => ?_
  have k4 : Keep NoS H D8 := k3.trans kD
  have s0 : H s = none := nos_free k4 n9.no
  have ps : p ≠ s := pt.ne s0
  have g4 : ∀ v ∈ xs4, Good (Or2 p s) D9 2 3 7178 v := fun v hv => ((g4 v hv).toS (S' := Or2 p s) fun b hb e => by
    rcases e with e | e
    · exact e
    · rw [e, n9.no] at hb
      exact (hb rfl).elim).keep n9.keep
  have hs9 := n9.at_
  have z4 : xs4.length = 24 := by rw [z4, z3]; rfl
  have k9 : Keep NoS H D9 := k4.trans n9.keep
  clear m1 m2 m3 m4 m5 m6 m7 m8 kD5 kD k3 k4 hl5 g3 n9
  walk_at "ws_7"
  walk_at "ws_7"
  refine k_tup (by simp; decide) fun e1 E1 m1 => ?_
  walk_at "ws_7"
  refine k_tup (by simp; decide) fun e2 E2 m2 => ?_
  walk_at "ws_7"
  have hsE := m2.get (m1.get hs9)
  refine o_app hsE (Nat.lt_of_le_of_lt (by omega : xs4.length ≤ 1000) (by decide)) fun E3 p3 => ?_
  walk_at "ws_7"
  have kE : Keep (At p) H E3 := p3.keep0 ((k9.trans m1.keep).trans m2.keep).of0 s0 hsE
  have kE9 : Keep (Or2 p s) D9 E3 := (m1.keep.trans m2.keep).trans (p3.keep (.inr rfl) hsE)
  have gN : Good (Or2 p s) E2 2 3 7178 (.ref e2) := by
    have i1 : Good (Or2 p s) E2 2 1 510 (.ref e1) := good_tupG (m := 101) (m2.get m1.at_) (all_cons (good_flat (by decide) big2 (by omega)) all_nil) (by simp)
    refine (good_tupG (k := 1) (m := 510) (w := 2044) m2.at_ (all_cons i1 (all_cons (good_flat (by decide) big2 (by omega)) (all_cons (good_flat (by decide) big2 (by omega)) (all_cons (good_flat (by decide) big2 (by omega)) all_nil)))) (by simp)).mono (by omega) (by omega) (by omega)
  have hs3 := p3.at_
  have g5 : ∀ v ∈ xs4 ++ [V.ref e2], Good (Or2 p s) E3 2 3 7178 v := all_app (fun v hv => (g4 v hv).keep kE9) (all_cons (gN.keep (p3.keep (.inr rfl) hsE)) all_nil)
  have z5 : (xs4 ++ [V.ref e2]).length = 25 := by rw [List.length_append, z4]; rfl
  generalize hx5 : xs4 ++ [V.ref e2] = xs5 at hs3 g5 z5
  have pt3 : Pot E3 p N := ((pt.keep ((k9.trans m1.keep).trans m2.keep)).put p3 ps)
  clear g4 gN kE9 hsE p3 m1 m2 hs9 k9 hx5
  -- loop 1
  refine w_forSt ?_
  walk_at "ws_7"
  refine ⟨p, 12, 20, N, rfl, pt3, by omega, by omega, by omega, by omega, by simp; omega, fun F1 t1 ops1 kp1 pt1 dd1 lo1 hl1 ho1 => ?_⟩
  walk_at "ws_7"
  refine ⟨p, 6, 3, 5, N - 104, rfl, pt1, by omega, by omega, by omega, by omega, by omega, by omega, by simp; omega, fun F2 t2 ops2 kp2 pt2 dd2 lo2 hl2 ho2 => ?_⟩
  walk_at "ws_7"
  have dd1 := dd1.keep (kp2.mono fun _ _ => trivial)
  obtain ⟨u1, ys1, eu1, hy1, dy1⟩ := dd1.tupX
  obtain ⟨u2, ys2, eu2, hy2, dy2⟩ := dd2.tupX
  injection eu1 with eu1
  subst eu1
  injection eu2 with eu2
  subst eu2
  have yl1 : ys1.length ≤ 12 := by rw [dy1.length, List.length_map]; simpa using hl1
  have yl2 : ys2.length = 6 := by rw [dy2.length, List.length_map]; simpa using hl2
  refine o_catt hy1 hy2 (Nat.le_trans (by omega : _ ≤ 1000) (by decide)) fun c F3 k3 hc => ?_
  have hops : ∀ v ∈ ys1 ++ ys2, ∃ d, DD All F3 v d ∧ Nice 0 1 408 d := by
    refine all_app (fun v hv => ?_) fun v hv => ?_
    · obtain ⟨d, h1, h2⟩ := all_of_dds (P := Nice 0 1 408) dy1 (fun d hd => by
        obtain ⟨o, ho, rfl⟩ := List.mem_map.mp hd
        exact op_nice (lo1.1 o ho)) v hv
      exact ⟨d, h1.keep k3.of0, h2⟩
    · obtain ⟨d, h1, h2⟩ := all_of_dds (P := Nice 0 1 408) dy2 (fun d hd => by
        obtain ⟨o, ho, rfl⟩ := List.mem_map.mp hd
        exact op_nice (lo2.1 o ho)) v hv
      exact ⟨d, h1.keep k3.of0, h2⟩
  have yl : (ys1 ++ ys2).length ≤ 18 := by rw [List.length_append]; omega
  generalize hys : ys1 ++ ys2 = ys at hc hops yl
  have kp : Keep (At p) E3 F3 := (kp1.trans kp2).trans k3.of0
  have hS : ∀ {A B : Hp}, Keep (At p) A B → Keep (Or2 p s) A B := fun k => k.mono fun b hb => .inl hb
  refine k_Ft hc (fun i σ H' => (∃ x3, RI p s H x3 σ H' (25 + 9 * i) (N - 160 - 72 * i)) ∧ Keep All F3 H') ⟨⟨_, xs5, _, _, rfl, kE.trans kp, (pt2.keep k3).le (by simp; omega), kp.all _ _ (fun e => ps e.symm) hs3, by omega, fun v hv => (g5 v hv).keep (hS kp)⟩, Keep.refl _ _⟩ (fun i σ H' _ h => h.2.tup _ _ hc) ?_ ?_
  · rintro i one σ G0 hi ⟨⟨x3, zs, x4, x5, rfl, kG, ptG, hsG, zl, gG⟩, kF⟩
    have hil : i < ys.length := by
      by_cases h : i < ys.length
      · exact h
      · rw [List.getElem?_eq_none (by omega)] at hi; cases hi
    obtain ⟨d, dd, nd⟩ := hops one (List.mem_of_getElem? hi)
    walk_at "ws_7"
    unfold t__law_right_2
    walk_at "ws_7"
    walk_at "ws_7"
    refine o_app hsG (Nat.lt_of_le_of_lt (by omega : zs.length ≤ 1000) (by decide)) fun G1 p1 => ?_
    walk_at "ws_7"
    have kS1 : Keep (Or2 p s) G0 G1 := p1.keep (.inr rfl) hsG
    have dd1 : DD All G1 one d := (dd.keep kF).keep (p1.keep (S := All) trivial hsG)
    refine k_R1 (by omega) (by omega) (fun j σ H' => RI p s H (some one) σ H' (25 + 9 * i + 1 + 2 * j) (N - 160 - 72 * i - 18 * j) ∧ Keep All G1 H') ⟨⟨zs ++ [one], _, _, rfl, p1.keep0 kG s0 hsG, ptG.put p1 ps, p1.at_, by rw [List.length_append]; simp; omega, all_app (fun v hv => (gG v hv).keep kS1) (all_cons ⟨d, dd1.mono (fun _ _ _ => trivial), nd.mono (by omega) (by omega) (by omega)⟩ all_nil)⟩, Keep.refl _ _⟩ ?_ ?_
    · rintro j σ J0 hj ⟨⟨zs, x4, x5, rfl, kJ, ptJ, hsJ, zlJ, gJ⟩, kG1⟩
      have hj4 : j < 4 := by simpa using hj
      have hE : ∀ {J : Hp} {n : Nat} {ws : List V}, Pot J p n → J s = some (.lst ws) → ∀ b, Or2 p s b → J b ≠ none := fun a1 a2 b hb e => by
        rcases hb with hb | hb
        · rw [hb] at e
          obtain ⟨ys, hy⟩ := a1.some
          rw [hy] at e
          cases e
        · rw [hb, a2] at e
          cases e
      walk_at "ws_7"
      unfold t__law_right_1
      walk_at "ws_7"
      refine ⟨p, one, d, Or2 p s, _, 0, 1, 408, rfl, ptJ, by omega, .inl rfl, hE ptJ hsJ, (dd1.keep kG1).mono (fun _ _ _ => trivial), nd, by omega, by omega, fun J1 v kp1 pt1 gv => ?_⟩
      have hs1 := kp1.all _ _ (fun e => ps e.symm) hsJ
      walk_at "ws_7"
      walk_at "ws_7"
      obtain ⟨dv, hdv, nv⟩ := gv
      refine ⟨p, v, dv, Or2 p s, _, 1, 2, 1762, rfl, pt1, by omega, .inl rfl, hE pt1 hs1, hdv, nv, by omega, by omega, fun J2 u kp2 pt2 gu => ?_⟩
      walk_at "ws_7"
      refine k_lst (by simp; decide) fun l7 J3 n3 => ?_
      walk_at "ws_7"
      have hs3 := n3.get (kp2.all _ _ (fun e => ps e.symm) hs1)
      refine o_extend hs3 n3.at_ (Nat.le_trans (by simp; omega : _ ≤ 1000) (by decide)) fun J4 p4 => ?_
      walk_at "ws_7"
      have kp4 : Keep (Or2 p s) J3 J4 := p4.keep (.inr rfl) hs3
      refine ⟨⟨zs ++ [v, u], _, _, rfl, p4.keep0 ((kJ.trans (kp1.trans kp2)).trans n3.keep) s0 hs3, ((pt2.new n3).put p4 ps).le (by omega), p4.at_, by rw [List.length_append]; simp; omega, all_app (fun w hw => (((gJ w hw).keep (hS (kp1.trans kp2))).keep n3.keep).keep kp4) ?_⟩, ?_⟩
      · refine all_cons ?_ (all_cons ?_ all_nil)
        · exact (((Good.mono ⟨dv, hdv, nv⟩ (by omega) (by omega) (by omega)).keep (hS kp2)).keep n3.keep).keep kp4
        · exact ((gu.mono (by omega) (by omega) (by omega)).keep n3.keep).keep kp4
      · exact ((kG1.trans ((kp1.trans kp2).mono fun _ _ => trivial)).trans n3.keep).trans (p4.keep (S := All) trivial hs3)
    · rintro σ J0 ⟨⟨zs, x4, x5, rfl, kJ, ptJ, hsJ, zlJ, gJ⟩, kG1⟩
      have e4 : (4 : Int).toNat = 4 := rfl
      rw [e4] at zlJ ptJ
      exact ⟨⟨_, zs, _, _, rfl, kJ, ptJ.le (by omega), hsJ, by omega, gJ⟩, (kF.trans (p1.keep (S := All) trivial hsG)).trans kG1⟩
  · rintro σ G0 ⟨⟨x3, zs, x4, x5, rfl, kG, ptG, hsG, zl, gG⟩, kF⟩
    walk_at "ws_7"
    refine w_forSl ?_
    walk_at "ws_7"
    refine k_Fl hsG (fun i σ H' => ∃ x6 x7 x8, σ = [some (.ref p), some (.int 1000000000000000), some (.ref s), x3, x4, x5, x6, x7, x8] ∧ Keep NoS G0 H') ⟨_, _, _, rfl, Keep.refl _ _⟩ (fun i σ H' _ h => by obtain ⟨_, _, _, _, k⟩ := h; exact k.all _ _ id hsG) ?_ ?_
    · rintro i x σ L0 hi ⟨x6, x7, x8, rfl, kL⟩
      obtain ⟨d, dd, nd⟩ := gG x (List.mem_of_getElem? hi)
      have dd := dd.keep (S := Or2 p s) kL.of0
      walk_at "ws_7"
      unfold t__law_right_3
      walk_at "ws_7"
      refine o_repr dd nd (by omega) (by omega) (by omega) ?_
      walk_at "ws_7"
      refine ⟨x, d, _, rfl, dd, fun L1 k1 => ?_⟩
      have dd1 := dd.keep (S := Or2 p s) k1.of0
      walk_at "ws_7"
      refine ⟨x, d, _, rfl, dd1, ?_⟩
      walk_at "ws_7"
      refine w_callW ?_
      walk_at "ws_7"
      refine ⟨rfl, x, d, _, rfl, dd1, ?_⟩
      walk_at "ws_7"
      refine k_lst (by simp; decide) fun r1 L2 n2 => ?_
      walk_at "ws_7"
      refine o_repr (S := NoS) (.lst id n2.at_ (.cons (.bl _) (.cons (.bl _) .nil))) bools_nice (by omega) (by omega) (by omega) ?_
      walk_at "ws_7"
      refine k_lst (by simp; decide) fun r2 L3 n3 => ?_
      walk_at "ws_7"
      refine o_repr (S := NoS) (.lst id n3.at_ (.cons (.bl _) (.cons (.bl _) .nil))) bools_nice (by omega) (by omega) (by omega) ?_
      walk_at "ws_7"
      refine w_iteF (by simp) ?_
      walk_at "ws_7"
      refine o_repr ((dd1.keep n2.keep).keep n3.keep) nd (by omega) (by omega) (by omega) ?_
      walk_at "ws_7"
      refine w_iteF (by simp) ?_
      walk_at "ws_7"
      exact ⟨_, _, _, rfl, ((kL.trans k1).trans n2.keep).trans n3.keep⟩
    · rintro σ L0 ⟨x6, x7, x8, rfl, kL⟩
      walk_at "ws_7"
      exact q L0 (kG.trans kL.of0)
end LB

open PySem PySem.Spec PyProof.Rows L2 LB
/-! the tactic: one step of a reading; many -/
local macro_rules | `(tactic| walk_at "w1_8") => `(tactic| first
  | with_reducible refine w_seq ?_ | with_reducible refine w_asg ?_ | with_reducible refine w_drop ?_ | with_reducible refine w_ret ?_ | with_reducible refine w_next ?_
  | with_reducible refine w_ifs ?_ | with_reducible refine w_forR1 ?_ | with_reducible refine w_forR2 ?_ | with_reducible refine w_forL ?_ | with_reducible refine w_forT ?_ | with_reducible refine w_name ?_ | with_reducible refine w_sub ?_ | with_reducible refine w_par ?_
  | with_reducible refine w_var (by with_unfolding_all rfl) ?_ | with_reducible refine w_c ?_ | with_reducible refine w_op ?_ | with_reducible refine w_un ?_
  | with_reducible refine w_test ?_ | with_reducible refine w_tb ?_ | with_reducible refine w_nil ?_ | with_reducible refine w_cons ?_ | with_reducible refine w_cb ?_ | with_reducible refine w_call ?_
  | with_reducible refine w_not ?_ | with_reducible refine w_and ?_ | with_reducible refine w_or ?_ | with_reducible refine w_andV ?_ | with_reducible refine w_orV ?_ | with_reducible refine w_notV ?_
  | with_reducible refine w_ife ?_ | with_reducible refine w_chain ?_ | with_reducible refine w_bm ?_ | with_reducible refine w_sl ?_ | with_reducible refine w_part ?_ | with_reducible refine w_nopart ?_
  | with_reducible refine w_exb ?_ | with_reducible refine w_exi ?_ | with_reducible refine w_ex2 ?_ | with_reducible refine w_ex3 ?_ | with_reducible refine w_lstrg ?_ | with_reducible refine w_rg2 ?_ | with_reducible refine w_rg1 ?_ | with_reducible refine w_exij ?_ | with_reducible refine w_tup ?_ | with_reducible refine w_lst ?_
  | with_reducible refine o_add ?_ | with_reducible refine o_sub ?_ | with_reducible refine o_neg ?_ | with_reducible refine o_lt ?_ | with_reducible refine o_le ?_ | with_reducible refine o_gt ?_ | with_reducible refine o_ge ?_
  | with_reducible refine o_ixL (by assumption) (by decide) (by with_unfolding_all rfl) ?_ | with_reducible refine o_ixT (by assumption) (by decide) (by with_unfolding_all rfl) ?_
  | with_reducible refine o_mod (by first | decide | omega) ?_ | with_reducible refine o_mul (by first | decide | omega) ?_ | with_reducible refine o_fdv (by first | decide | omega) (by first | decide | omega) ?_ | with_reducible refine o_setL (by assumption) (by decide) (by simp) ?_
  | with_reducible refine oo_addi ?_ | with_reducible refine oo_sub ?_ | with_reducible refine oo_neg ?_ | with_reducible refine w_rev ?_ | with_reducible refine w_m0 ?_
  | with_reducible refine w_par3 ?_ | with_reducible refine w_tyl (by assumption) ?_
  | with_reducible refine o_abs ?_ | with_reducible refine o_eqs (by with_unfolding_all rfl) ?_ | with_reducible refine o_nes (by with_unfolding_all rfl) ?_ | with_reducible refine o_max2 ?_ | with_reducible refine o_min2 ?_ | with_reducible refine o_isiX (by assumption) ?_ | with_reducible refine o_lenl (by assumption) ?_ | with_reducible refine o_lent (by assumption) ?_ | with_reducible refine o_int1b ?_)
local macro_rules | `(tactic| walk_at "ws_8") => `(tactic| repeat (first | walk_at "w1_8" | dsimp only [List.set_cons_zero, List.set_cons_succ]))
namespace LB
def spLaw (K : PySem.W.Frag) : Sp := fun vs H Q _ => ∃ (a : Addr) (ns : List Int), vs = [.ref a] ∧ SqL K H a (ns.map V.int) ∧ ns.length ≤ 63 ∧ ∀ H', Q (.bl true) H'
theorem spLaw_arity {K : PySem.W.Frag} {vs : List V} {H : Hp} {Q : VK} {E : XK} (h : spLaw K vs H Q E) : vs.length = 1 := by obtain ⟨_, _, rfl, _⟩ := h; rfl
theorem w_yes {σ : LB.St} {H : Hp} {Qb : Bool → Hp → Prop} (h : Qb true H) : tYes σ H Qb := h
theorem sql_keep {K : PySem.W.Frag} {H H' : Hp} {a : Addr} {xs : List V} (k : Keep NoS H H') (h : SqL K H a xs) : SqL K H' a xs := by
  rcases h with (h | ⟨o, h⟩) | h
  · exact .inl (.inl (k.all _ _ id h))
  · exact .inl (.inr ⟨o, k.all _ _ id h⟩)
  · exact .inr h

def t_law (K : PySem.W.Frag) : TS :=
  (tRet (tCB (rAll K) (tCons (tLc (iRng1 (tCons (tCB rMax2 (tCons (tC (V.int 1)) (tCons (tCB rMin2 (tCons (tC (V.int 3)) (tCons (tCB (rLen K) (tCons (tVar 0) tNil)) tNil))) tNil))) tNil)) (gName 1) tYes (tCall spRight [] E0 (tCons (tCall (spPot K) [] E0 (tCons (tVar 0) (tCons (tVar 1) tNil))) tNil)) [1]) tNil)))

theorem pure_law {K : PySem.W.Frag} {vs : List V} {H : Hp} {Q : VK} {E : XK} (h : spLaw K vs H Q E) : t_law K { nx := fun _ H' => Q .non H', rt := Q } (start ["script", "k"] vs) H := by
  obtain ⟨a, ns, rfl, sq, len, q⟩ := h
  show t_law K _ [some (.ref a), none] H
  unfold t_law
  walk_at "ws_8"
  show tCB rMax2 _ _ _ _
  walk_at "ws_8"
  refine o_lens sq ?_
  walk_at "ws_8"
  refine ⟨_, rfl, by split <;> (try split) <;> (try split) <;> simp <;> omega, by split <;> (try split) <;> (try split) <;> simp <;> omega, fun D hD => ?_⟩
  generalize hj : (if _ > (1 : Int) then _ else (1 : Int)) = j
  have hj3 : j ≤ 3 := by
    have e : ∀ m : Int, (if m < 3 then m else 3 : Int) ≤ 3 := fun m => by split <;> omega
    have e1 := e ((ns.map V.int).length : Int)
    rw [← hj]
    generalize (if ((ns.map V.int).length : Int) < 3 then ((ns.map V.int).length : Int) else 3 : Int) = m at e1 ⊢
    split <;> omega
  refine lc_range (fun i H' => Keep NoS H H' ∧ ∃ bs : List Bool, H' D = some (.lst (bs.map V.bl)) ∧ bs.all id = true ∧ bs.length = i) ⟨Keep.new hD, [], upd_same, rfl, rfl⟩ ?_ ?_
  · rintro i H1 hi ⟨k1, bs, hb, ht, hl⟩
    have hi3 : (i : Int) < 3 := by omega
    refine ⟨rfl, ?_⟩
    walk_at "ws_8"
    refine w_yes ?_
    refine w_iteT rfl ?_
    walk_at "ws_8"
    refine ⟨a, _, ns, rfl, sql_keep k1 sq, by omega, by omega, len, fun H2 p p0 k2 pt => ?_⟩
    walk_at "ws_8"
    refine ⟨p, _, rfl, pt, by omega, fun H3 k3 => ?_⟩
    have pD : D ≠ p := ne_of_none hb p0
    have hD3 := k3.all _ _ pD (k2.all _ _ id hb)
    have p00 : H p = none := nos_free k1 p0
    have k03 : Keep NoS H H3 := (k1.trans k2).trans0 k3 fun c hc => .inr (by rw [hc]; exact p00)
    refine ⟨_, hD3, by rw [List.length_map, hl]; exact Nat.lt_of_le_of_lt (by omega : i ≤ 1000) (by decide), k03.put0 hD hD3, bs ++ [true], by rw [List.map_append]; exact upd_same, by rw [List.all_append, ht]; rfl, by rw [List.length_append, hl]; rfl⟩
  · rintro H1 ⟨k1, bs, hb, ht, hl⟩
    refine ⟨D, bs, rfl, .inl (.inl hb), ?_⟩
    rw [ht]
    walk_at "ws_8"
    exact q H1
end LB

namespace LB
open PySem PySem.Spec PyProof.Rows L2
/-! ### enumerate over a tuple -/
/-- the cell of an enumerate that has given nothing yet, drawing from the iterator at it -/
abbrev enO (it : Addr) : Obj := { cls := .type "enumerate", data := .fields #[.none, .bool false, .ref it, rawInt 0, .none, .none] }
theorem enum_meets {v : Value} {o : Obj} {G : Heap → Prop} (B : Begins v o G) :
    Meets (Builtin.«enumerate.__new__» ⟨[.type "enumerate", v], []⟩) fun _ R s => G s.heap ∧ R (.ok (.ret (.ref (s.heap.push o).objs.size))) { s with heap := (s.heap.push o).push (enO s.heap.objs.size) } :=
  .of_wp fun prog w A R s hs => by
    rcases s with ⟨hp, gs, dr, tk, os⟩
    rcases hs with ⟨hG, hR⟩
    have sub := sub_enumerate
    have it1 : ∀ {A' : Around} {E Q : Value → Shared → Prop}, Q (.ref hp.objs.size) ⟨hp.push o, gs, dr, tk, os⟩ → wpAny (model prog w) A' (pyIter v) Q E ⟨hp, gs, dr, tk, os⟩ := fun q =>
      B.iter prog w _ _ _ _ hG q
    wp_walk using it1
    refine wpAny_stack_any fun st => wpAny_pure ?_
    split
    next c _ _ _ _ _ =>
      cases (c == Value.type "enumerate") <;> (wp_walk using it1; exact ⟨_, rfl, hR⟩)
    next => wp_walk using it1; exact ⟨_, rfl, hR⟩
theorem enum_call {P : Program} {w : World} {A : Around} {E Q : Value → Shared → Prop} {s : Shared} {v : Value} {o : Obj} {G : Heap → Prop} (B : Begins v o G) (hG : G s.heap)
    (q : IsEnum ((s.heap.push o).push (enO s.heap.objs.size)) (s.heap.objs.size + 1) s.heap.objs.size 0 .none → Q (.ref (s.heap.objs.size + 1)) { s with heap := (s.heap.push o).push (enO s.heap.objs.size) }) :
    wpAny (model P w) A (call (.type "enumerate") [v]) Q E s := by
  refine callType_new F.called_enumerate (by decide) (F.typeCall_enumerate_1 _) (F.newCall_enumerate_1 _) (fun b => F.args_object_init_2 b _) F.entry_enumerate_new (enum_meets B) ⟨hG, ?_⟩
  have z : (s.heap.push o).objs.size = s.heap.objs.size + 1 := Heap.size_push ..
  have e : IsEnum ((s.heap.push o).push (enO s.heap.objs.size)) (s.heap.objs.size + 1) s.heap.objs.size 0 .none := by
    have := Heap.get?_push_size (s.heap.push o) (o := enO s.heap.objs.size) rfl
    rwa [z] at this
  show _ ∧ _
  rw [z]
  exact ⟨⟨_, e, rfl⟩, q e⟩
/-- the tuple at a, each item in a new pair with its place -/
def IteT (K : PySem.W.Frag) (a : Addr) : It :=
  ⟨fun i H => ∃ (xs : List V) (x : V), SqT K H a xs ∧ xs[i]? = some x, fun i H v H' => ∃ T x, v = .ref T ∧ H T = none ∧ H' = upd H T (.tup [.int (i : Nat), x]) ∧ (∀ xs, SqT K H a xs → xs[i]? = some x), fun i H => ∃ xs : List V, SqT K H a xs ∧ i = xs.length⟩
theorem enum_not {h : Heap} {e it a : Addr} {i : Int} {old : Value} {items : Array Value} (he : IsEnum h e it i old) (ht : h.IsTuple a items) : e ≠ a := by
  rintro rfl
  obtain ⟨o, ho, hc, _⟩ := ht
  have h1 := Option.some.inj (ho.symm.trans he)
  rw [h1] at hc
  exact absurd (Value.type.inj hc) (by decide)
theorem iter_not {h : Heap} {it a : Addr} {i : Nat} {items : Array Value} (hi : h.IsTupleIter it a i) (ht : h.IsTuple a items) : a ≠ it := by
  rintro rfl
  obtain ⟨o, ho, hc, _⟩ := ht
  obtain ⟨o2, ho2, hc2, _⟩ := hi
  have h1 := Option.some.inj (ho.symm.trans ho2)
  rw [h1, hc2] at hc
  exact absurd (Value.type.inj hc) (by decide)
theorem turn_enT {P : Program} {w : World} {K : PySem.W.Frag} {elts : List Expr} {kk : Nat} {tpos : Pos} (a e it : Addr) :
    Turn P w K (.Tuple elts kk tpos) (IteT K a) [e, it] e fun i h => (∃ old, IsEnum h e it ((i : Nat) : Int) old) ∧ h.IsTupleIter it a i ∧ e ≠ it := by
  have two : ∀ b, b ∈ [e, it] → b = e ∨ b = it := fun b hb => by simpa using hb
  refine ⟨List.mem_cons_self, ?_, ?_, ?_, ?_, ?_⟩
  · rintro i h ⟨⟨old, he⟩, ⟨o, ho, _, hd⟩, _⟩ b hb
    rcases two b hb with rfl | rfl
    · exact ⟨_, he, fun v q => nomatch q⟩
    · exact ⟨o, ho, fun v q => by rw [hd] at q; cases q⟩
  · rintro i h h' ⟨⟨old, he⟩, hi, hn⟩ k
    exact ⟨⟨old, k e (by simp) _ he⟩, hi.at fun o q => k it (by simp) o q, hn⟩
  · rintro X rfl rfl rfl hc i pins s σ H E I hf ⟨⟨old, he⟩, hi, hn⟩ ⟨xs, x, hq, hx⟩
    obtain ⟨its, rv, ht, _⟩ := I.tuple hq
    have ht : s.heap.IsTuple a its.toArray := ht
    obtain ⟨u, hu, ru⟩ := rv.get hx
    have D := Draws.tuple (prog := X.prog) (w := X.w) (A := X.A.in1) (I.ok.hd hc) it a (iter_not hi ht) its.toArray
    have lt : i < its.toArray.size := by
      have : i < its.length := by
        by_cases z : i < its.length
        · exact z
        · rw [List.getElem?_eq_none (by omega)] at hu; cases hu
      simpa using this
    have le := Heap.lt_size he
    have li : it < s.heap.objs.size := let ⟨_, q, _⟩ := hi; Heap.lt_size q
    refine wpAny_pyNext_enum_itemD D he ⟨hi, ht⟩ lt hn (fun z => ?_) fun u2 h' tk hP ho hs hT hz hk => ?_
    · rcases List.mem_cons.mp z with z | z
      · exact hn z
      · exact enum_not he ht (List.mem_singleton.mp z)
    have eu : u2 = u := by
      have h1 : its.toArray[i]? = some u2 := hP
      rw [List.getElem?_toArray, hu] at h1
      exact (Option.some.inj h1).symm
    subst eu
    refine ⟨_, rfl, wpAny_letOwnedTupleGo_enum (s := { s with heap := h', toks := tk + 1 }) ho fun h2 he2 sb => ?_⟩
    have tn : ∀ b, b < s.heap.objs.size → b ≠ s.heap.objs.size := fun b hb => Nat.ne_of_lt hb
    have hT2 := (sb.2 _ (tn e le).symm).trans hT
    have ok : ObjOk X.prog X.w (upd H s.heap.objs.size (.tup [.int (i : Nat), x])) h2 s.heap.objs.size (.tup [.int (i : Nat), x]) :=
      ⟨(by decide : 2 ≤ sizeLine), [.int i tk, u2], .cons ⟨_, rfl⟩ (.cons ru .nil), ⟨_, hT2, rfl, _, rfl⟩⟩
    have off : ∀ b, b ∉ [e, it] → b ≠ e ∧ b ≠ it := fun b hb => ⟨fun z => hb (by simp [z]), fun z => hb (by simp [z])⟩
    have J := I.turnedNew (t' := tk + 1) (ch := [e, it]) (fun b ob hb q => (sb.2 b (off b hb).1).trans (hk b ob (off b hb).1 (off b hb).2 q)) hf (Nat.le_refl _) ok
    refine ⟨.ref s.heap.objs.size, _, J, rfl, ⟨_, x, rfl, I.hok.fresh (Nat.le_refl _), rfl, fun ys hy => by rw [I.tuple_inj hy hq]; exact hx⟩, ⟨⟨u2, ?_⟩, hs.1.at fun o q => (sb.2 it (Ne.symm hn)).trans q, hn⟩, fun b hb => ?_⟩
    · rw [show ((i + 1 : Nat) : Int) = (i : Int) + 1 by omega]
      exact he2
    · have lb : b < s.heap.objs.size := by rcases two b hb with rfl | rfl <;> assumption
      rw [upd_ne (tn b lb)]
      exact (hf b hb).1
  · rintro X rfl rfl rfl hc i pins s σ H E I hf ⟨⟨old, he⟩, hi, hn⟩ ⟨xs, hq, hx⟩
    obtain ⟨its, rv, ht, _⟩ := I.tuple hq
    have ht : s.heap.IsTuple a its.toArray := ht
    obtain ⟨f0, f1, f2, f3, f4, f5⟩ := hf it (by simp)
    have hl : i = its.toArray.size := by rw [hx, rv.length, List.size_toArray]
    subst hl
    have D := Draws.tuple (prog := X.prog) (w := X.w) (A := X.A.in1) (I.ok.hd hc) it a (iter_not hi ht) its.toArray
    exact wpAny_pyNext_enum_endD D he ⟨hi, ht⟩ fun h' eb => ⟨rfl, I.turned (t' := s.toks) (fun b o hb q => eb b o hb q) f0 f1 f3 f4 f5⟩
  · rintro A i s Q E ⟨⟨_, he⟩, _⟩ h
    exact wpAny_pyIter_enum he h

/-- for i, x in enumerate(e), e a tuple -/
def iEnumT (K : PySem.W.Frag) (ta : TA) : TI := fun σ H R => ta σ H fun vs H1 => ∃ a xs, vs = [.ref a] ∧ SqT K H1 a xs ∧ R (IteT K a) H1
theorem pi_enumT {X : Cx} {e : Expr} {ta : TA} {p pos tpos : Pos} {elts : List Expr} {kk : Nat} (hg : Gl X "enumerate") (hm : X.mg "enumerate" = none) (ha : PA X [e] ta) (st : starEach [e] X.env = [(false, eval e X.env)] := by rfl) :
    PI X (.Tuple elts kk tpos) (.Call (.Name "enumerate" p) [e] [] pos) (iEnumT X.K ta) := by
  constructor
  intro pins s σ H R I h
  refine Call_ (ld_blt I hg hm boot_enumerate (PyProof.Rows.callWith_type1 (thn (ha.run pos pins s σ H _ I h) ?_) st rfl))
  rintro us s1 ⟨vs, H1, I1, r1, a, xs, rfl, hq, q⟩
  obtain ⟨its, rv, ht, _⟩ := I1.tuple hq
  have ht : s1.heap.IsTuple a its.toArray := ht
  rw [Vals.ref1 r1]
  refine enum_call (begins_tuple a its.toArray) ht fun he => wpAny_pyIter_enum he ?_
  have k : ∀ b o, s1.heap.get? b = some o → ((s1.heap.push { cls := .type "tuple_iterator", data := .fields #[.ref a, .int 0 0] }).push (enO s1.heap.objs.size)).get? b = some o := fun b o e =>
    Heap.get?_push_of_some _ (Heap.get?_push_of_some _ e)
  have hi : ((s1.heap.push { cls := .type "tuple_iterator", data := .fields #[.ref a, .int 0 0] }).push (enO s1.heap.objs.size)).IsTupleIter s1.heap.objs.size a 0 :=
    ⟨_, Heap.get?_push_of_some _ (Heap.get?_push_size _ rfl), rfl, rfl⟩
  refine ⟨s1.heap.objs.size + 1, [s1.heap.objs.size + 1, s1.heap.objs.size], _, _, H1, rfl, I1.kept (t' := s1.toks) k, turn_enT a (s1.heap.objs.size + 1) s1.heap.objs.size, ⟨⟨.none, he⟩, hi, Nat.succ_ne_self _⟩, fun b hb => ?_, q⟩
  have le : s1.heap.objs.size ≤ b := by
    have z : b = s1.heap.objs.size + 1 ∨ b = s1.heap.objs.size := by simpa using hb
    rcases z with rfl | rfl
    · exact Nat.le_succ _
    · exact Nat.le_refl _
  exact I1.fpOk le (I1.hok.fresh le)
/-- .. a list or a tuple -/
def iEnA (K : PySem.W.Frag) (ta : TA) : TI := fun σ H R => iEnum K ta σ H R ∨ iEnumT K ta σ H R
theorem pi_enA {X : Cx} {e : Expr} {ta : TA} {p pos tpos : Pos} {elts : List Expr} {kk : Nat} (hg : Gl X "enumerate") (hm : X.mg "enumerate" = none) (ha : PA X [e] ta) (st : starEach [e] X.env = [(false, eval e X.env)] := by rfl) :
    PI X (.Tuple elts kk tpos) (.Call (.Name "enumerate" p) [e] [] pos) (iEnA X.K ta) := by
  constructor
  intro pins s σ H R I h
  rcases h with h | h
  · exact (pi_enum hg hm ha st).run pins s σ H R I h
  · exact (pi_enumT hg hm ha st).run pins s σ H R I h
/-! ### sets of ints: sorted, any number of members -/
theorem sorted_S {P : Program} {w : World} {A : Around} {E Q : Value → Shared → Prop} {s : Shared} {a : Addr} {S : Int → Bool} {n : Nat} (R : SetR w s.heap a S n) (hh : A.handled = none)
    (q : ∀ (s' : Shared) (p : Addr) (out : List Value) (c : Nat) (ns : List Int), (∀ b o, s.heap.get? b = some o → s'.heap.get? b = some o) → s'.gens = s.gens ∧ s'.os = s.os ∧ s.heap.objs.size ≤ p →
      s'.heap.get? p = some (seqObj "list" out.toArray c) → IntsAre out ns → ns.Pairwise (· < ·) → (∀ k, k ∈ ns ↔ S k = true) → ns.length = n → Q (.ref p) s') :
    wpAny (model P w) A (call (.builtin "sorted") [.ref a]) Q E s := by
  rcases R with ⟨o, es, ep, t, ho, hx, hd, good, nd, mem, small, fit, hn, ris, led⟩
  refine Calls.call_function_entry (b := Builtin.«sorted») kind_sorted plain_sorted entry_sorted (args_sorted1 _) ?_
  unfold Builtin.«sorted»
  refine wpAny_bind (m := checkCount "sorted" 1 1 _) (wpAny_pure (wpAny_bind (collect_set (A := A.in1) hh ⟨o, ho, hx.1, hd⟩ fit small ris led fun s1 vs keep grow eg eo pm => ?_)))
  have len : vs.length = n := by rw [pm.length_eq, List.length_map, Array.length_toList, hn]
  have few : vs.length ≤ sizeLine := by
    have : n < scanBound := by rw [← hn]; exact small
    have : scanBound = 4096 := rfl
    exact Nat.le_trans (by omega : vs.length ≤ 4096) (by decide)
  have hI : IntsAre vs (vs.map SrtO.iv) := SrtO.ints_iv fun v hv => by
    obtain ⟨e, he, rfl⟩ := List.mem_map.mp (pm.mem_iff.mp hv)
    obtain ⟨k, tk, h1, _⟩ := good e he
    exact ⟨k, tk, h1⟩
  have keys : (vs.map SrtO.iv).Perm (es.toList.map keyOf) := by
    have h1 := pm.map SrtO.iv
    rwa [List.map_map, show (SrtO.iv ∘ fun e : Int × Value => e.2) = keyOf from funext fun e => by obtain ⟨i, v⟩ := e; cases v <;> rfl] at h1
  refine wpAny_bind (wpAny_newList ?_ few)
  have hl : (s1.heap.push (seqObj "list" vs.toArray 0)).get? s1.heap.objs.size = some (seqObj "list" vs.toArray 0) := Heap.get?_push_size _ rfl
  refine wpAny_bind (wpAny_holding (wpAny_call_entry slot_list_sort ⟨_, hl, rfl⟩ entry_list_sort (SrtO.list_sort_ord SrtO.swo_int hl few (fun h2 => SrtO.ints_sortable hI h2) fun out h1 h2 => ⟨_, rfl, ?_⟩) (args_list_sort _)))
  obtain ⟨k1, k2, k3⟩ := SrtO.ints_out hI h1 h2
  obtain ⟨c, hc⟩ := sortedHeap_at (vs := vs) (out := out.toArray) hl
  have pn := k2.trans keys
  refine wpAny_pure ⟨_, rfl, q _ s1.heap.objs.size out c (out.map SrtO.iv) (fun b u e => ?_) ⟨eg, eo, grow⟩ hc k1 (lt_of_le_nodup _ k3 (pn.nodup_iff.mpr nd)) (fun k => by rw [pn.mem_iff, ← mem k]) (by rw [pn.length_eq, List.length_map, Array.length_toList, hn])⟩
  have e1 := keep b u e
  have lt := Heap.lt_size e1
  show (sortedHeap _ s1.heap.objs.size vs out.toArray).get? b = some u
  rw [sortedHeap_old (Nat.ne_of_lt lt) (by rw [size_push']; exact Nat.lt_succ_of_lt lt)]
  exact Heap.get?_push_of_some _ e1
/-- sorted(found) -/
def rSortS (w : World) : List V → Hp → VK → Prop := fun vs H Q => ∃ (a : Addr) (S : Int → Bool) (n : Nat), vs = [V.ref a] ∧ H a = some (SetO w a S n) ∧
  ∀ (ns : List Int) (p : Addr), ns.Pairwise (· < ·) → (∀ k : Int, k ∈ ns ↔ S k = true) → ns.length = n → H p = none → Q (.ref p) (upd H p (.lst (ns.map V.int)))
theorem cr_sortS {X : Cx} (hc : X.calm = true) : CallR X (.builtin "sorted") (rSortS X.w) := by
  rintro pins s σ H vs us Q I r ⟨a, S, n, rfl, ha, q⟩
  have R := setO_get I ha
  have nb : n < scanBound := by
    obtain ⟨_, es, _, _, _, _, _, _, _, _, small, _, hn, _⟩ := R
    rw [← hn]; exact small
  rw [Vals.ref1 r]
  refine sorted_S R (I.ok.hd hc) fun s' p out c ns k e0 hg hi hs hm hl => ?_
  obtain ⟨eg, eo, hp⟩ := e0
  have hn : H p = none := I.hok.fresh hp
  have few : (ns.map V.int).length ≤ sizeLine := by
    rw [List.length_map, hl]
    have : scanBound = 4096 := rfl
    exact Nat.le_trans (by omega : n ≤ 4096) (by decide)
  rcases s' with ⟨hp', g', d', tk', os'⟩
  have eo : os' = s.os := eo
  subst eo
  have J : Inv X pins σ (upd H p (.lst (ns.map V.int))) { s with heap := hp', gens := g', drawn := d', toks := tk' } :=
    I.call (ch := []) (Un.laid k hp hn) (I.hok.laid k hp ⟨few, out, c, vals_of_ints hi, hg⟩) (by rw [show g' = s.gens from eg]; exact I.bare) fun _ z => nomatch z
  exact ⟨.ref p, _, J, rfl, q ns p hs hm hl hn⟩
end LB

namespace LB
open PySem PySem.Spec PyProof.Rows L2
open PpSet (eval_SetComp codeAny_compStart_set compLoopS_any newSet_ok)
/-! ### set comprehensions of ints -/
abbrev setO0 (w : World) : Obj := { cls := .type "set", dict := none, data := .set #[] 0 (.fresh 0 0 (!w.params.followText "set-order")) }
abbrev addS (S : Int → Bool) (k : Int) : Int → Bool := fun j => S j || decide (j = k)
abbrev addN (S : Int → Bool) (n : Nat) (k : Int) : Nat := if S k = true then n else n + 1
/-- {e for t in it if ..}, e an int; D: the new set -/
def tSi (w : World) (wi : TI) (g : TG) (tt : TT) (te : TE) (vs : List Nat) : TE := fun σ H Q => wi σ H fun J H1 => ∀ D, H1 D = none → ∃ W : Nat → Nat → Hp → Prop, (∃ m, W 0 m (upd H1 D (SetO w D (fun _ => false) 0))) ∧
  ∀ i m H, W i m H → (J.stop i H ∧ Q (.ref D) H) ∨ (J.go i H ∧ ∃ Nx : Hp → Prop, (∀ H', Nx H' → ∃ m', m' < m ∧ W (i + 1) m' H') ∧
    ∀ x H', J.yld i H x H' → g x (wipe σ vs) H' fun σ2 H2 => wipe σ2 vs = wipe σ vs ∧ tt σ2 H2 fun b H3 => if b = true then te σ2 H3 fun y H4 => ∃ (k : Int) (S : Int → Bool) (n : Nat), y = .int k ∧ H4 D = some (SetO w D S n) ∧ n + 1 < scanBound ∧ Nx (upd H4 D (SetO w D (addS S k) (addN S n k))) else Nx H3)
theorem si_add {X : Cx} {pins : List (Addr × Obj)} {σ : L2.St} {H : Hp} {s : Shared} {E : Value → Shared → Prop} {D : Addr} {S : Int → Bool} {n : Nat} {k : Int} {u : Value} {Q : Value → Shared → Prop}
    (I : L2.Inv X pins σ H s) (hD : H D = some (SetO X.w D S n)) (room : n + 1 < scanBound) (ru : RelV (.int k) u) (q : ∀ s', L2.Inv X pins σ (upd H D (SetO X.w D (addS S k) (addN S n k))) s' → Q .none s') :
    wpAny (model X.prog X.w) X.A (call (.builtin "set.add") [.ref D, u]) Q E s := by
  rcases ru with ⟨t, rfl⟩
  refine setR_add (setO_get I hD) room fun h' sb new => q _ (I.write (e := D) (t' := s.toks + 1) (by rw [hD]; trivial) (.inl rfl) (fun b v nb e => (sb.2 b nb).trans e) ?_ (setO_new new))
  rcases new with ⟨o, _, _, _, ho, _⟩
  exact ⟨o, ho⟩
section
variable {X : Cx} {elt tg iter : Expr} {ifs : List Expr} {scope : Scope} {own : List (Str × Nat)} {pos : Pos} {wi : TI} {g : TG} {tt : TT} {te : TE}
/-- what a comprehension's parts are, in its block -/
structure Parts (X : Cx) (tg elt : Expr) (ifs : List Expr) (scope : Scope) (g : TG) (tt : TT) (te : TE) : Prop where
  tg : ∀ (s : Shared) (H : Hp) (C : Addr) (cl : List (Str × Addr)) (fp : List Addr), PG (X.blk s H scope (compEnvC scope cl C X.env) fp) tg g
  ifs : ∀ (s : Shared) (H : Hp) (C : Addr) (cl : List (Str × Addr)) (fp : List Addr), PTs (X.blk s H scope (compEnvC scope cl C X.env) fp) ifs tt
  elt : ∀ (s : Shared) (H : Hp) (C : Addr) (cl : List (Str × Addr)) (fp : List Addr), PE (X.blk s H scope (compEnvC scope cl C X.env) fp) elt te
theorem pe_si (hc : X.calm = true) (hN : X.N.Nodup) (hi : PI X tg iter wi) (ok : BlkOk X.N X.env.scope scope own) (T0 : Parts X tg elt ifs scope g tt te)
    (hs : ∀ x, foldedSetIterable iter X.env x = pure x := by intro _; rfl) : PE X (.SetComp elt [⟨tg, iter, ifs, 0⟩] scope pos) (tSi X.w wi g tt te (own.map (·.2))) := by
  constructor
  intro pins s σ H Q I h
  rw [eval_SetComp]
  have fr : ∀ y ∈ scope.names, y.2 = .free → ∃ c, X.env.cells.lookup y.1 = some c := fun y hy e => by
    have := ok.free y hy e
    exact I.ok.has _ this
  refine wpAny_comprehension_free (use := none) rfl hs (closure_ok fr) ok.kind (fun y hy e => e ▸ ok.uniq y hy) (thn (hi.run pins s σ H _ I h) fun xv s1 hx => thn hx ?_)
  rintro itv s2 ⟨it, fp, tn, J, H2, rfl, I2, T, st2, f2, q⟩
  refine newSet_ok (newEnv_comp ?_)
  -- the new set, at D
  generalize hD : s2.heap.objs.size = D
  rcases q D (I2.hok.fresh (Nat.le_of_eq hD)) with ⟨W, ⟨m0, w0⟩, turn⟩
  generalize e3 : ({ s2 with heap := s2.heap.push (setO0 X.w) } : Shared) = s3
  have h3 : s3.heap = s2.heap.push (setO0 X.w) := by rw [← e3]
  have I3 : L2.Inv X pins σ (upd H2 D (SetO X.w D (fun _ => false) 0)) s3 := by
    subst e3 hD
    exact I2.laid (t' := s2.toks) (fun b o e => Heap.get?_push_of_some _ e) (Nat.le_refl _) (setO_new (setR_fresh X.w))
  have old : ∀ b ∈ fp, b < s2.heap.objs.size := fun b hb => let ⟨_, e, _⟩ := T.obj _ _ st2 b hb; Heap.lt_size e
  have st3 : tn 0 s3.heap := T.keep _ _ _ st2 fun b _ o e => h3 ▸ Heap.get?_push_of_some _ e
  generalize e4 : upd H2 D (SetO X.w D (fun _ => false) 0) = H3 at I3 w0
  have f3 : ∀ b ∈ fp, FpOk X pins H3 b ∧ b < s3.heap.objs.size := fun b hb => by
    have lt := old b hb
    subst e4 hD
    exact ⟨⟨(upd_ne (Nat.ne_of_lt lt)).trans (f2 b hb).1, (f2 b hb).2⟩, by rw [h3, Heap.size_push]; exact Nat.lt_succ_of_lt lt⟩
  have I4 := block_start I3 ok hN f3
  have pg := T0.tg s3 H3 s3.heap.objs.size (cellsFrom (s3.heap.objs.size + 1) scope.names (cloFrom X.env.cells scope.names [])) fp
  have pt := T0.ifs s3 H3 s3.heap.objs.size (cellsFrom (s3.heap.objs.size + 1) scope.names (cloFrom X.env.cells scope.names [])) fp
  have pe := T0.elt s3 H3 s3.heap.objs.size (cellsFrom (s3.heap.objs.size + 1) scope.names (cloFrom X.env.cells scope.names [])) fp
  show codeAny _ _ (.compStart (.SetComp elt [⟨tg, iter, ifs, 0⟩] scope pos) 0 (.ref it) (.ref D) (compEnvC scope (cellsFrom (s3.heap.objs.size + 1) scope.names (cloFrom X.env.cells scope.names [])) s3.heap.objs.size X.env)) (compPost (model X.prog X.w) X.A X.xe none (EP X pins σ Q) (.ref D) s3.heap.objs.size) { s3 with heap := pushCells (s3.heap.push { cls := .type "dict", data := .dict #[] }) scope.names }
  generalize e5 : compEnvC scope (cellsFrom (s3.heap.objs.size + 1) scope.names (cloFrom X.env.cells scope.names [])) s3.heap.objs.size X.env = ce at I4 pg pt pe ⊢
  have cL : ce.locals = s3.heap.objs.size := by rw [← e5]; rfl
  generalize e6 : ({ s3 with heap := pushCells (s3.heap.push { cls := .type "dict", data := .dict #[] }) scope.names } : Shared) = s4 at I4 ⊢
  have st4 : tn 0 s4.heap := T.keep _ _ _ st3 fun b _ o e => by subst e6; exact pushCells_keeps _ _ _ _ (Heap.get?_push_of_some _ e)
  have stat : ∀ {σ' : L2.St} {H' : Hp} {s' : Shared}, L2.Inv (X.blk s3 H3 scope ce fp) [] σ' H' s' → (∀ b ∈ fp, H' b = none) → ∀ b ∈ fp, FpOk (X.blk s3 H3 scope ce fp) [] H' b := fun J' hn b hb =>
    ⟨hn b hb, (J'.ok.exf b hb).1, J'.ok.exfs b hb, .inl hb, fun x c e => (J'.ok.exf b hb).2 x c e, fun p hp => by cases hp⟩
  -- the loop
  have loop : codeAny (model X.prog X.w) X.A (.compLoop (.SetComp elt [⟨tg, iter, ifs, 0⟩] scope pos) 0 (.ref it) (.ref D) ce) (compPost (model X.prog X.w) X.A X.xe none (EP X pins σ Q) (.ref D) s3.heap.objs.size) s4 := by
    refine compLoopS_any (fun n s' => ∃ i H', L2.Inv (X.blk s3 H3 scope ce fp) [] (wipe σ (own.map (·.2))) H' s' ∧ tn i s'.heap ∧ (∀ b ∈ fp, H' b = none) ∧ W i n H') ?_ m0 ⟨0, H3, I4, st4, fun b hb => (f3 b hb).1.1, w0⟩
    rintro n s5 ⟨i, H5, I5, st5, n5, w5⟩
    rcases turn i n H5 w5 with ⟨stop, qq⟩ | ⟨go, Nx, hNx, step⟩
    · refine thnF (T.done (X.blk s3 H3 scope ce fp) rfl rfl rfl hc i [] s5 _ H5 (fun _ _ => False) I5 (stat I5 n5) st5 stop) ?_
      rintro r s6 ⟨rfl, I6⟩
      have I7 : L2.Inv X pins σ H5 s6 := I3.call' (ch := fp) I6.os I6.base I6.hok I6.bare fun b hb => let z := (f3 b hb).1.2; ⟨z.2.2.1, z.1, z.2.2.2.1, z.2.2.2.2⟩
      have nC : H5 s3.heap.objs.size = none := cL ▸ I6.free
      rcases I6.loc with ⟨m, hn, _⟩
      have hn : s6.heap.Ns ce.locals m := hn
      rw [cL] at hn
      have f := I3.fpOk (Nat.le_refl _) nC
      exact ⟨m, hn, fun h'' sb => ⟨.ref D, H5, I7.turned (t' := s6.toks) (fun b o nb e => (sb.2 b nb).trans e) f.1 f.2.1 f.2.2.2.1 f.2.2.2.2.1 f.2.2.2.2.2, rfl, qq⟩⟩
    · refine thnF (T.item (X.blk s3 H3 scope ce fp) rfl rfl rfl hc i [] s5 _ H5 (fun _ _ => False) I5 (stat I5 n5) st5 go) ?_
      rintro r s6 ⟨u, rfl, h6⟩
      refine thnF h6 ?_
      rintro _ s7 ⟨x, H7, I7, r7, y7, st7, n7⟩
      refine thnF (pg.run _ s7 _ H7 x u _ (I7.pinned (stat I7 n7) (T.obj _ _ st7)) r7 (step x H7 y7)) ?_
      rintro _ s8 ⟨σ8, H8, I8, hw8, q8⟩
      -- behind a turn
      have fin : ∀ {s' : Shared} {H' : Hp}, L2.Inv (X.blk s3 H3 scope ce fp) ([] ++ pinsAt fp s7.heap) σ8 H' s' → Nx H' → ∃ m, m < n ∧ ∃ i H', L2.Inv (X.blk s3 H3 scope ce fp) [] (wipe σ (own.map (·.2))) H' s' ∧ tn i s'.heap ∧ (∀ b ∈ fp, H' b = none) ∧ W i m H' := fun {s' H'} J' nx => by
        rcases hNx H' nx with ⟨m', lt, w'⟩
        have held : ∀ b ∈ fp, ∀ o, s7.heap.get? b = some o → s'.heap.get? b = some o ∧ H' b = none := fun b hb o e => by
          have z := J'.pin (b, o) (List.mem_append_right _ (List.mem_append_right _ (mem_pinsAt hb e)))
          exact ⟨z.1, z.2.1⟩
        refine ⟨m', lt, i + 1, H', (J'.unpinned (pins := [])).weak (by rw [← hw8, wipe_length]) (fun j v e => (wipe_some (hw8 ▸ e)).1), T.keep _ _ _ st7 fun b hb o e => (held b hb o e).1, fun b hb => ?_, w'⟩
        rcases T.obj _ _ st7 b hb with ⟨o, e, _⟩
        exact (held b hb o e).2
      refine thnF (pt.run _ s8 σ8 H8 _ I8 q8) ?_
      rintro (_ | _) s9 ⟨H9, I9, q9⟩
      · simp only [Bool.false_eq_true, if_false] at q9 ⊢
        exact fin I9 q9
      · simp only [if_true] at q9 ⊢
        refine thnF (pe.run _ s9 σ8 H9 _ I9 q9) ?_
        rintro z s10 ⟨yv, H10, I10, r10, k, S0, n0, rfl, hD10, hz, nx⟩
        exact si_add (X := X.blk s3 H3 scope ce fp) I10 hD10 hz r10 fun s11 I11 => fin I11 nx
  exact codeAny_compStart_set loop (T.self X.A 0 _ _ _ st4 loop)
end
end LB

namespace LB
open PySem PySem.Spec PyProof.Rows L2
/-! ### set(xs), xs a list of ints -/
theorem init_setL {P : Program} {w : World} {A : Around} {E : Value → Shared → Prop} {s : Shared} {l S : Addr} {items : Array Value} {ns : List Int} (hh : A.handled = none) (hl : s.heap.IsList l items) (hi : IntsAre items.toList ns) (few : ns.length + 1 < scanBound)
    (hS : s.heap.get? S = some (setO0 w)) (lt : l < S) (sz : s.heap.objs.size = S + 1) {R : PySem.Fin → Shared → Prop}
    (q : ∀ (h' : Heap) (tk c : Nat), SetR w h' S (fun j => decide (j ∈ ns)) c → c ≤ ns.length → (∀ b o, b ≠ S → s.heap.get? b = some o → h'.get? b = some o) → R (.done (.ret .none)) { s with heap := h', toks := tk }) :
    wpAny (model P w) A (Builtin.«set.__init__» ⟨[.ref S, .ref l], []⟩) R E s := by
  have n0 : items.size = ns.length := by
    have := IntsAre.length hi
    rwa [Array.length_toList] at this
  rcases hl with ⟨⟨oc, od, dt, sl⟩, ho, hc, nl, hd⟩
  have hc : oc = .type "list" := hc
  have hd : dt = .seq items nl := hd
  subst hc hd
  have hT : s.TypeIs (.ref S) "set" := ⟨_, hS, rfl⟩
  have s1 := F.sub_list_set
  have s2 := F.sub_list_frozenset
  have ne : (Value.type "list" == Value.type "dict") = false := by decide
  have il : s.heap.IsList l items := ⟨_, ho, rfl, nl, rfl⟩
  rcases s with ⟨hp, gs, dr, tk, os⟩
  unfold Builtin.«set.__init__» noKeywords Builtin.Frozenset.updateFrom
  generalize hPI : pyIter = PI
  wp_walk
  subst hPI
  refine wpAny_pyIter_list il (wpAny_bind (wpAny_runValue ?_))
  have zI : (Heap.push hp { cls := .type "list_iterator", data := .fields #[.ref l, .int 0 0] }).objs.size = hp.objs.size + 1 := Heap.size_push ..
  have sz : hp.objs.size = S + 1 := sz
  have lS : l ≠ S := Nat.ne_of_lt lt
  have lI : l ≠ hp.objs.size := by
    rw [sz]
    exact Nat.ne_of_lt (Nat.lt_succ_of_lt lt)
  have SI : S ≠ hp.objs.size := by
    rw [sz]
    exact Nat.ne_of_lt (Nat.lt_succ_self _)
  have vals : ∀ (i : Nat) (v : Value), items[i]? = some v → ∃ k t, ns[i]? = some k ∧ v = .int k t := fun i v e => by
    have li : i < ns.length := by
      rw [← n0]
      exact (Array.getElem?_eq_some_iff.mp e).1
    rcases IntsAre.int_at hi i v (by rwa [Array.getElem?_toList]) with ⟨t, rfl⟩
    exact ⟨ns[i], t, List.getElem?_eq_getElem li, by rw [List.getD_eq_getElem?_getD, List.getElem?_eq_getElem li]; rfl⟩
  have off : ∀ b, b ∈ [hp.objs.size, l] → b ≠ S := fun b hb => by
    rcases List.mem_cons.mp hb with rfl | hb
    · exact Ne.symm SI
    · rw [List.mem_singleton.mp hb]; exact lS
  refine set_update_ints (Walks.list (by first | exact hh | simp [hh]) hp.objs.size l lI items).toS S (fun z => off S z rfl) ns n0 few vals (items.size - 0) 0 _ (by omega) (Nat.zero_le _) ⟨⟨_, Heap.get?_push_size _ rfl, rfl, rfl⟩, il.push _⟩
    ⟨0, Nat.le_refl 0, setR_new_at (Heap.get?_push_of_some _ hS)⟩ ?_
  rintro ⟨h', g2, d', tk', os'⟩ c hm hc hR
  have e1 : g2 = gs := hm.gens
  have e2 : d' = dr := hm.drawn
  have e3 : os' = os := hm.os
  subst e1 e2 e3
  refine wpAny_pure (wpAny_pure (q h' tk' c hR (n0 ▸ hc) fun b o nb e => hm.heap b o ?_ (Heap.get?_push_of_some _ e)))
  have lb : b ≠ hp.objs.size := Nat.ne_of_lt (Heap.lt_size e)
  simp only [List.mem_cons, List.not_mem_nil, or_false, not_or]
  exact ⟨nb, lb⟩
theorem call_setL {P : Program} {w : World} {A : Around} {E Q : Value → Shared → Prop} {s : Shared} {l : Addr} {items : Array Value} {ns : List Int} (hh : A.handled = none) (hl : s.heap.IsList l items) (hi : IntsAre items.toList ns) (few : ns.length + 1 < scanBound)
    (q : ∀ (h' : Heap) (tk c : Nat), SetR w h' s.heap.objs.size (fun j => decide (j ∈ ns)) c → c ≤ ns.length → (∀ b o, s.heap.get? b = some o → h'.get? b = some o) → Q (.ref s.heap.objs.size) { s with heap := h', toks := tk }) :
    wpAny (model P w) A (call (.type "set") [.ref l]) Q E s := by
  rcases F.called_set.mro with ⟨mc, mt, hmro⟩
  have f1 := F.called_set.made
  have f2 := F.called_set.sub
  have f3 := F.called_set.notType
  have f4 := F.called_set.canCreate
  have f5 := F.typeCall_set_1 (.ref l)
  have lt : l < s.heap.objs.size := let ⟨_, e, _⟩ := hl; Heap.lt_size e
  refine wpAny_call (codeAny_of_tree (show wpAny _ _ (callAny (.type "set") _) _ _ _ from wpAny_pure ⟨Code.quiet_builtin _ (by decide +kernel), codeAny_builtin F.entry_type_call ?_⟩))
  rw [Around.under_plain (weight_type_call_type "set" [.ref l] []) rfl]
  repeat (any_goals (first | assumption | wp_step))
  refine codeAny_mono (code_set_led1 (.ref l) (E := E) (Q₁ := fun v s1 => v = .ref s.heap.objs.size ∧ s1 = { s with heap := s.heap.push (setO0 w) }) ⟨rfl, rfl⟩) ?_
  rintro (e | (v | _ | _ | _)) s1 hr
  all_goals first
    | exact hr
    | exact hr.elim
    | skip
  rcases hr with ⟨rfl, rfl⟩
  have hS : (s.heap.push (setO0 w)).get? s.heap.objs.size = some (setO0 w) := Heap.get?_push_size _ rfl
  have hT : Shared.TypeIs { s with heap := s.heap.push (setO0 w) } (.ref s.heap.objs.size) "set" := ⟨_, hS, rfl⟩
  have f6 := F.called_set.init.lookup
  have f7 := F.called_set.init.bind (.ref s.heap.objs.size)
  repeat (any_goals (first | assumption | wp_step))
  refine codeAny_mono (codeAny_call_builtin (R := wants (fun r s2 => r = .none ∧ ∃ h' tk c, s2 = { s with heap := h', toks := tk } ∧ SetR w h' s.heap.objs.size (fun j => decide (j ∈ ns)) c ∧ c ≤ ns.length ∧ ∀ b o, s.heap.get? b = some o → h'.get? b = some o) E)
    F.called_set.init.plain F.entry_set_init (check_set_init_1 hT ?_)) ?_
  · refine init_setL (s := { s with heap := s.heap.push (setO0 w) }) (by simp [hh]) (hl.push _) hi few hS lt (Heap.size_push ..) fun h' tk c hR hc k => ?_
    exact ⟨rfl, h', tk, c, rfl, hR, hc, fun b o e => k b o (Nat.ne_of_lt (Heap.lt_size e)) (Heap.get?_push_of_some _ e)⟩
  rintro (e | (v | _ | _ | _)) s2 hr
  all_goals first
    | exact hr
    | exact hr.elim
    | skip
  rcases hr with ⟨rfl, h', tk, c, rfl, hR, hc, k⟩
  repeat (any_goals (first | assumption | wp_step))
  exact q _ _ _ hR hc k
/-- set(xs), xs a list of ints -/
def rSetOfL (K : PySem.W.Frag) (w : World) : List V → Hp → VK → Prop := fun vs H Q => ∃ (a : Addr) (ns : List Int), vs = [.ref a] ∧ SqL K H a (ns.map V.int) ∧ ns.length ≤ 4000 ∧ ∀ p c, H p = none → Q (.ref p) (upd H p (SetO w p (fun j => decide (j ∈ ns)) c))
theorem cr_setL {X : Cx} (hc : X.calm = true) : CallR X (.type "set") (rSetOfL X.K X.w) := by
  rintro pins s σ H vs us Q I r ⟨a, ns, rfl, hq, few, q⟩
  rw [Vals.ref1 r]
  rcases I.list hq with ⟨its, rv, hl, _⟩
  have sc : scanBound = 4096 := rfl
  refine call_setL (I.ok.hd hc) hl.isList (items := its.toArray) (ns := ns) (by rw [List.toList_toArray]; exact Vals.ints rv) (by omega) fun h' tk c hR _ k => ?_
  exact ⟨.ref s.heap.objs.size, _, I.laid (t' := tk) (fun b u e => k b u e) (Nat.le_refl _) (setO_new hR), rfl, q _ c (I.hok.fresh (Nat.le_refl _))⟩
end LB

namespace LB
open PySem PySem.Spec PyProof.Rows L2
/-- .. any new object is written again -/
theorem Keep.putO {S : Addr → Prop} {H0 H : Hp} {p : Addr} {o u : HO} (k : Keep S H0 H) (h0 : H0 p = none) : Keep S H0 (upd H p u) :=
  ⟨fun b v n e => by rw [upd_ne (ne_of_none e h0)]; exact k.all b v n e, fun b v e => by rw [upd_ne (ne_of_none e h0)]; exact k.tup b v e⟩
/-! ### sorted({..}), sorted(set(xs)): the set itself not told -/
/-- a new list of the ints ms stands at p; else all is kept -/
structure NewInts (H H2 : Hp) (p : Addr) (ms : List Int) : Prop where
  keep : Keep NoS H H2
  no : H p = none
  at_ : H2 p = some (.lst (ms.map V.int))
def kSorted (Q : VK) (H : Hp) (mem : Int → Prop) : Prop := ∀ (ms : List Int) (p : Addr) (H2 : Hp), ms.Pairwise (· < ·) → (∀ k, k ∈ ms ↔ mem k) → NewInts H H2 p ms → Q (.ref p) H2
/-- a reading made monotone -/
def tMono (t : TE) : TE := fun σ H Q => ∃ Q0 : VK, t σ H Q0 ∧ ∀ v H', Q0 v H' → Q v H'
theorem pe_mono {X : Cx} {e : Expr} {t : TE} (h : PE X e t) : PE X e (tMono t) := by
  constructor
  rintro pins s σ H Q I ⟨Q0, h0, h1⟩
  refine thn (h.run pins s σ H Q0 I h0) ?_
  rintro v s1 ⟨x, H1, I1, r, q⟩
  exact ⟨x, H1, I1, r, h1 _ _ q⟩
/-- sorted({te for slot i in tl}), te an int told by ns -/
def tSortC (K : PySem.W.Frag) (tl : TE) (i : Nat) (te : TE) : TE := fun σ H Q => tl σ H fun x H1 => ∃ (a : Addr) (xs : List V) (ns : List Int), x = .ref a ∧ SqT K H1 a xs ∧ xs.length ≤ 4000 ∧ (∀ H2, Keep NoS H1 H2 → SqT K H2 a xs) ∧
  (∀ (j : Nat) (x : V), xs[j]? = some x → ∃ k, ns[j]? = some k ∧ ∀ (H2 : Hp) (Q2 : VK), Keep NoS H1 H2 → Q2 (.int k) H2 → te ((σ.set i none).set i (some x)) H2 Q2) ∧ ns.length = xs.length ∧ kSorted Q H1 (· ∈ ns)
section
variable {X : Cx} {elt l : Expr} {scope : Scope} {pos pos2 p : Pos} {tl te : TE} {i : Nat} {v : Str} {pv : Pos}
theorem pe_sortC (hc : X.calm = true) (hN : X.N.Nodup) (hg : Gl X "sorted") (hm : X.mg "sorted" = none) (hl : PE X l tl) (ok : BlkOk X.N X.env.scope scope [(v, i)])
    (ht : ∀ (s : Shared) (H : Hp) (C : Addr) (cl : List (Str × Addr)) (fp : List Addr), PG (X.blk s H scope (compEnvC scope cl C X.env) fp) (.Name v pv) (gName i))
    (he : ∀ (s : Shared) (H : Hp) (C : Addr) (cl : List (Str × Addr)) (fp : List Addr), PE (X.blk s H scope (compEnvC scope cl C X.env) fp) elt te)
    (st : starEach [.SetComp elt [⟨.Name v pv, l, [], 0⟩] scope pos2] X.env = (false, eval (.SetComp elt [⟨.Name v pv, l, [], 0⟩] scope pos2) X.env) :: starEach [] X.env := by rfl)
    (hs : ∀ x, foldedSetIterable l X.env x = pure x := by intro _; rfl) :
    PE X (.Call (.Name "sorted" p) [.SetComp elt [⟨.Name v pv, l, [], 0⟩] scope pos2] [] pos) (tSortC X.K tl i te) := by
  constructor
  intro pins s σ H Q I h
  have P1 := pe_si (pos := pos2) hc hN (pi_tup (tg := .Name v pv) (pe_mono hl)) ok ⟨ht, fun _ _ _ _ _ => pts_nil, he⟩ hs
  refine (pe_callB (pos := pos) (p := p) (cr_sortS hc) hg hm (by decide +kernel) (pa_cons P1 pa_nil) (he := st)).run pins s σ H Q I ?_
  refine ⟨_, h, ?_⟩
  rintro x H1 ⟨a, xs, ns, e, hq, few, hq2, hel, hlen, q⟩
  refine ⟨a, e, ⟨xs, hq⟩, fun D hD => ⟨fun j m H' => m = xs.length - j ∧ j ≤ xs.length ∧ Keep NoS H1 H' ∧ ∃ S n, H' D = some (SetO X.w D S n) ∧ (∀ k, S k = true ↔ k ∈ ns.take j) ∧ n ≤ j, ⟨xs.length, by simp, Nat.zero_le _, Keep.new hD, _, 0, upd_same, fun k => by simp, Nat.le_refl _⟩, ?_⟩⟩
  rintro j m H' ⟨rfl, hj, k1, S, n, hS, hm, hn⟩
  by_cases lt : j < xs.length
  · refine .inr ⟨⟨xs, xs[j], hq2 _ k1, by simp [lt]⟩, fun H2 => Keep NoS H1 H2 ∧ ∃ S n, H2 D = some (SetO X.w D S n) ∧ (∀ k, S k = true ↔ k ∈ ns.take (j + 1)) ∧ n ≤ j + 1, fun H2 hw => ⟨xs.length - (j + 1), by omega, rfl, lt, hw⟩, ?_⟩
    rintro x H2 ⟨rfl, hx⟩
    obtain ⟨k, hk, t⟩ := hel j x (hx xs (hq2 _ k1))
    refine ⟨by show ((σ.set i none).set i (some x)).set i none = σ.set i none; rw [List.set_set, List.set_set], ?_⟩
    simp only [tYes, if_true]
    have sc : scanBound = 4096 := rfl
    refine t H2 _ k1 ⟨k, S, n, rfl, hS, by omega, k1.putO (o := .lst []) hD, _, _, upd_same, fun z => ?_, ?_⟩
    · rw [List.take_add_one, hk]
      simp only [addS, Bool.or_eq_true, decide_eq_true_eq, Option.toList_some, List.mem_append, List.mem_singleton, hm]
    · unfold addN
      split <;> omega
  · have e2 : j = xs.length := by omega
    subst e2
    refine .inl ⟨⟨xs, hq2 _ k1, Nat.le_refl _⟩, ?_⟩
    refine ⟨D, S, n, rfl, hS, fun ms p' h1 h2 _ h3 => q ms p' _ h1 (fun k => ?_) ⟨k1.trans (Keep.new h3), ?_, upd_same⟩⟩
    · rw [h2, hm, ← hlen, List.take_length]
    · cases z : H1 p' with
      | none => rfl
      | some o => rw [k1.all _ _ id z] at h3; cases h3
/-- sorted(set(xs)) -/
def tSortL (K : PySem.W.Frag) (te : TE) : TE := fun σ H Q => te σ H fun x H1 => ∃ (a : Addr) (ns : List Int), x = .ref a ∧ SqL K H1 a (ns.map V.int) ∧ ns.length ≤ 4000 ∧ kSorted Q H1 (· ∈ ns)
theorem pe_sortL {e : Expr} {p2 : Pos} (hc : X.calm = true) (hg : Gl X "sorted") (hm : X.mg "sorted" = none) (hg2 : Gl X "set") (hm2 : X.mg "set" = none) (he : PE X e te)
    (st : starEach [.Call (.Name "set" p2) [e] [] pos2] X.env = (false, eval (.Call (.Name "set" p2) [e] [] pos2) X.env) :: starEach [] X.env := by rfl)
    (st2 : starEach [e] X.env = (false, eval e X.env) :: starEach [] X.env := by rfl) :
    PE X (.Call (.Name "sorted" p) [.Call (.Name "set" p2) [e] [] pos2] [] pos) (tSortL X.K te) := by
  constructor
  intro pins s σ H Q I h
  have P1 := pe_callTy (pos := pos2) (p := p2) (cr_setL hc) hg2 hm2 (by decide +kernel) (pa_cons (pe_mono he) pa_nil (hs := st2)) (he := st2)
  refine (pe_callB (pos := pos) (p := p) (cr_sortS hc) hg hm (by decide +kernel) (pa_cons P1 pa_nil) (he := st)).run pins s σ H Q I ?_
  refine ⟨_, h, ?_⟩
  rintro x H1 ⟨a, ns, rfl, hq, few, q⟩
  refine ⟨a, ns, rfl, hq, few, fun D c hD => ⟨D, _, c, rfl, upd_same, fun ms p' h1 h2 _ h3 => q ms p' _ h1 (fun k => by rw [h2]; exact decide_eq_true_iff) ⟨(Keep.new hD).trans (Keep.new h3), ?_, upd_same⟩⟩⟩
  cases z : H1 p' with
  | none => rfl
  | some o => rw [(Keep.new (S := NoS) hD).all _ _ id z] at h3; cases h3
end
/-! ### dicts with int keys -/
/-- the dict of the keys vs, at v the value f v -/
def mkD (vs : List Int) (f : Int → V) : List (Key × V) := vs.map fun v => (.inl v, f v)
theorem mkD_len {vs : List Int} {f : Int → V} : (mkD vs f).length = vs.length := List.length_map _
theorem mkD_val {f : Int → V} {v : Int} : ∀ {vs : List Int}, valV (mkD vs f) (.inl v) = if v ∈ vs then some (f v) else none
  | [] => rfl
  | u :: vs => by
    by_cases e : u = v
    · subst e
      rw [if_pos List.mem_cons_self]
      exact valV_pos (p := ((Sum.inl u : Key), f u)) rfl
    · have e2 : ¬ (Sum.inl u : Key) = Sum.inl v := fun z => e (Sum.inl.inj z)
      have := valV_neg (p := ((Sum.inl u : Key), f u)) (r := mkD vs f) e2
      rw [show mkD (u :: vs) f = ((Sum.inl u : Key), f u) :: mkD vs f from rfl, this, mkD_val]
      have e3 : ¬ v = u := fun z => e z.symm
      simp only [List.mem_cons, e3, false_or]
theorem mkD_congr {vs : List Int} {f g : Int → V} (h : ∀ v ∈ vs, f v = g v) : mkD vs f = mkD vs g := List.map_congr_left fun v hv => by rw [h v hv]
theorem mkD_put {vs : List Int} {f : Int → V} {v : Int} {x : V} : putK (mkD vs f) (.inl v) x = mkD (if v ∈ vs then vs else vs ++ [v]) (fun u => if u = v then x else f u) := by
  have h0 : ((mkD vs f).any fun kv => decide (kv.1 = .inl v)) = decide (v ∈ vs) := by
    rw [valV_any, mkD_val]
    by_cases h : v ∈ vs <;> simp [h]
  unfold putK
  rw [h0]
  by_cases h : v ∈ vs
  · simp only [h, decide_true, if_true]
    unfold mkD
    rw [List.map_map]
    refine List.map_congr_left fun u _ => ?_
    by_cases e : u = v
    · subst e; simp
    · have e2 : ¬ (Sum.inl u : Key) = Sum.inl v := fun z => e (Sum.inl.inj z)
      simp only [Function.comp, e, e2, if_false]
  · simp only [h, decide_false, Bool.false_eq_true, if_false]
    unfold mkD
    rw [List.map_append]
    simp only [List.map_cons, List.map_nil, if_true]
    congr 1
    refine List.map_congr_left fun u hu => ?_
    have e : ¬ u = v := fun z => h (z ▸ hu)
    simp only [e, if_false]
theorem mkD_get {H : Hp} {a : Addr} {vs : List Int} {f : Int → V} {v : Int} (e : H a = some (.dK (mkD vs f))) : DGet H a (.int v) (if v ∈ vs then some (f v) else none) := by
  have := DGet.k (k := .inl v) e
  rwa [mkD_val] at this
theorem mkD_getF {H : Hp} {a : Addr} {o : Obj} {vs : List Int} {f : Int → V} {v : Int} (e : H a = some (.frz o (.dK (mkD vs f)))) : DGet H a (.int v) (if v ∈ vs then some (f v) else none) :=
  .inl ⟨mkD vs f, .inl v, .inr ⟨o, e⟩, rfl, by rw [mkD_val]⟩
theorem mkD_at {vs : List Int} {f : Int → V} {i : Nat} {k : Key} {x : V} (h : (mkD vs f)[i]? = some (k, x)) : ∃ v, vs[i]? = some v ∧ k = .inl v ∧ x = f v := by
  unfold mkD at h
  rw [List.getElem?_map] at h
  cases e : vs[i]? with
  | none => rw [e] at h; cases h
  | some v =>
    rw [e] at h
    injection h with h
    injection h with h1 h2
    exact ⟨v, rfl, h1.symm, h2.symm⟩
/-- the comprehension of a dict: D the new one -/
theorem dc_it {J : It} {n : Nat} {G : Hp → Prop} {Y : Nat → Hp → V → Hp → Prop} (w : Walk J n G Y) {g : TG} {tt : TT} {tk tv : TE} {vs : List Nat} {σ : LB.St} {H1 : Hp} {D : Addr} {Qd : Hp → Prop} (Pv : Nat → Hp → Prop) (h0 : Pv 0 (upd H1 D (.dK [])))
    (hG : ∀ i H, i ≤ n → Pv i H → G H)
    (hs : ∀ i x H H', i < n → Pv i H → Y i H x H' → g x (wipe σ vs) H' fun σ2 H2 => wipe σ2 vs = wipe σ vs ∧ tt σ2 H2 fun b H3 =>
      if b = true then tk σ2 H3 fun y H4 => tv σ2 H4 fun z H5 => ∃ kvs k, y = kV k ∧ H5 D = some (.dK kvs) ∧ kvs.length < sizeLine ∧ Pv (i + 1) (upd H5 D (.dK (putK kvs k z))) else Pv (i + 1) H3)
    (hd : ∀ H, Pv n H → Qd H) :
    ∃ W : Nat → Nat → Hp → Prop, (∃ m, W 0 m (upd H1 D (.dK []))) ∧ ∀ i m H, W i m H → (J.stop i H ∧ Qd H) ∨ (J.go i H ∧ ∃ Nx : Hp → Prop, (∀ H', Nx H' → ∃ m', m' < m ∧ W (i + 1) m' H') ∧
      ∀ x H', J.yld i H x H' → g x (wipe σ vs) H' fun σ2 H2 => wipe σ2 vs = wipe σ vs ∧ tt σ2 H2 fun b H3 => if b = true then tk σ2 H3 fun y H4 => tv σ2 H4 fun z H5 => ∃ kvs k, y = kV k ∧ H5 D = some (.dK kvs) ∧ kvs.length < sizeLine ∧ Nx (upd H5 D (.dK (putK kvs k z))) else Nx H3) := by
  refine ⟨fun i m H => i ≤ n ∧ m + i = n ∧ Pv i H, ⟨n, Nat.zero_le _, rfl, h0⟩, ?_⟩
  rintro i m H ⟨hi, hm, p⟩
  have q := hG i H hi p
  by_cases lt : i < n
  · exact .inr ⟨w.goes i H lt q, Pv (i + 1), fun H' p' => ⟨m - 1, by omega, lt, by omega, p'⟩, fun x H' y => hs i x H H' lt p (w.yields i H x H' lt q y)⟩
  · obtain rfl : i = n := by omega
    exact .inl ⟨w.stops H q, hd H p⟩
theorem walk_enT {K : PySem.W.Frag} {a : Addr} {xs : List V} : Walk (IteT K a) xs.length (fun H => SqT K H a xs) (YPair (fun i => some (.int (i : Nat))) (fun i => xs[i]?)) := by
  refine ⟨fun i _ hi q => ⟨xs, xs[i], q, by simp [hi]⟩, fun _ q => ⟨xs, q, rfl⟩, ?_⟩
  rintro i H v H' _ q ⟨T, x, h1, h2, h3, h4⟩
  exact ⟨T, .int (i : Nat), x, h1, h2, h3, rfl, h4 xs q⟩
end LB

namespace LB
open PySem PySem.Spec PyProof.Rows L2
/-! ### the values of a log: plain mathematics -/
theorem asc_eq : ∀ {as bs : List Int}, as.Pairwise (· < ·) → bs.Pairwise (· < ·) → (∀ k, k ∈ as ↔ k ∈ bs) → as = bs
  | [], [], _, _, _ => rfl
  | [], b :: bs, _, _, h => absurd ((h b).mpr List.mem_cons_self) (by simp)
  | a :: as, [], _, _, h => absurd ((h a).mp List.mem_cons_self) (by simp)
  | a :: as, b :: bs, ha, hb, h => by
    obtain ⟨a1, a2⟩ := List.pairwise_cons.mp ha
    obtain ⟨b1, b2⟩ := List.pairwise_cons.mp hb
    have e : a = b := by
      rcases List.mem_cons.mp ((h a).mp List.mem_cons_self) with e | e
      · exact e
      rcases List.mem_cons.mp ((h b).mpr List.mem_cons_self) with e2 | e2
      · exact e2.symm
      have := b1 a e
      have := a1 b e2
      omega
    subst e
    rw [asc_eq a2 b2 fun k => ?_]
    have hk := h k
    simp only [List.mem_cons] at hk
    constructor
    · intro z
      rcases hk.mp (.inr z) with rfl | z2
      · exact absurd (a1 _ z) (by omega)
      · exact z2
    · intro z
      rcases hk.mpr (.inr z) with rfl | z2
      · exact absurd (b1 _ z) (by omega)
      · exact z2
def insV (v : Int) : List Int → List Int
  | [] => [v]
  | u :: us => if v < u then v :: u :: us else if v = u then u :: us else u :: insV v us
theorem insV_mem {v k : Int} : ∀ {us : List Int}, k ∈ insV v us ↔ k = v ∨ k ∈ us
  | [] => by simp [insV]
  | u :: us => by
    unfold insV
    split
    · simp
    · split
      · rename_i e; subst e; simp
      · simp only [List.mem_cons, insV_mem (us := us)]
        constructor <;> rintro (h | h | h) <;> simp [h]
theorem insV_asc {v : Int} : ∀ {us : List Int}, us.Pairwise (· < ·) → (insV v us).Pairwise (· < ·)
  | [], _ => by simp [insV]
  | u :: us, h => by
    obtain ⟨h1, h2⟩ := List.pairwise_cons.mp h
    unfold insV
    split
    · rename_i e
      refine List.pairwise_cons.mpr ⟨fun y hy => ?_, h⟩
      rcases List.mem_cons.mp hy with rfl | hy
      · exact e
      · exact Int.lt_trans e (h1 y hy)
    · split
      · exact h
      · refine List.pairwise_cons.mpr ⟨fun y hy => ?_, insV_asc h2⟩
        rcases insV_mem.mp hy with rfl | hy
        · omega
        · exact h1 y hy
/-- the values, ascending -/
def vals (ops : List Op) : List Int := (ops.map (·.v)).foldr insV []
theorem foldr_mem {k : Int} : ∀ {vs : List Int}, k ∈ vs.foldr insV [] ↔ k ∈ vs
  | [] => by simp
  | v :: vs => by rw [List.foldr_cons, insV_mem, foldr_mem, List.mem_cons]
theorem foldr_asc : ∀ {vs : List Int}, (vs.foldr insV []).Pairwise (· < ·)
  | [] => by simp
  | v :: vs => by rw [List.foldr_cons]; exact insV_asc foldr_asc
theorem vals_asc (ops : List Op) : (vals ops).Pairwise (· < ·) := foldr_asc
theorem vals_mem {ops : List Op} {k : Int} : k ∈ vals ops ↔ k ∈ ops.map (·.v) := foldr_mem
theorem vals_at {ops : List Op} {k : Int} : k ∈ vals ops ↔ ∃ (i : Nat) (o : Op), ops[i]? = some o ∧ o.v = k := by
  rw [vals_mem, List.mem_map]
  constructor
  · rintro ⟨o, ho, e⟩
    obtain ⟨i, hi, e2⟩ := List.mem_iff_getElem.mp ho
    exact ⟨i, o, by rw [List.getElem?_eq_getElem hi, e2], e⟩
  · rintro ⟨i, o, h, e⟩
    exact ⟨o, List.mem_of_getElem? h, e⟩
theorem insV_len {v : Int} : ∀ {us : List Int}, (insV v us).length ≤ us.length + 1
  | [] => by simp [insV]
  | u :: us => by
    unfold insV
    split
    · simp
    · split
      · simp
      · have := insV_len (v := v) (us := us)
        simp only [List.length_cons]
        omega
theorem vals_len (ops : List Op) : (vals ops).length ≤ ops.length := by
  unfold vals
  have : ∀ vs : List Int, (vs.foldr insV []).length ≤ vs.length := fun vs => by
    induction vs with
    | nil => simp
    | cons v vs ih =>
      rw [List.foldr_cons, List.length_cons]
      have := insV_len (v := v) (us := vs.foldr insV [])
      omega
  have := this (ops.map (·.v))
  rwa [List.length_map] at this
/-- .. in the order in which they are met -/
def keysN (ops : List Op) : List Int := ops.foldl (fun ks o => if o.v ∈ ks then ks else ks ++ [o.v]) []
theorem keysN_snoc {ops : List Op} {o : Op} : keysN (ops ++ [o]) = if o.v ∈ keysN ops then keysN ops else keysN ops ++ [o.v] := by
  unfold keysN
  rw [List.foldl_append]
  rfl
theorem keysN_facts (ops : List Op) : (∀ k, k ∈ keysN ops ↔ k ∈ ops.map (·.v)) ∧ (keysN ops).Nodup ∧ (keysN ops).length ≤ ops.length := by
  have h : ∀ n, n ≤ ops.length → (∀ k, k ∈ keysN (ops.take n) ↔ k ∈ (ops.take n).map (·.v)) ∧ (keysN (ops.take n)).Nodup ∧ (keysN (ops.take n)).length ≤ n := by
    intro n
    induction n with
    | zero => intro _; simp [keysN]
    | succ n ih =>
      intro hn
      obtain ⟨i1, i2, i3⟩ := ih (by omega)
      have hx : ops[n]? = some ops[n] := List.getElem?_eq_getElem (by omega)
      rw [List.take_add_one, hx]
      simp only [Option.toList_some]
      rw [keysN_snoc]
      by_cases e : ops[n].v ∈ keysN (ops.take n)
      · rw [if_pos e]
        refine ⟨fun k => ?_, i2, by omega⟩
        rw [i1, List.map_append, List.mem_append]
        constructor
        · exact .inl
        · rintro (z | z)
          · exact z
          · rw [← i1]
            simp only [List.map_cons, List.map_nil, List.mem_singleton] at z
            rw [z]
            exact e
      · rw [if_neg e]
        refine ⟨fun k => ?_, ?_, by rw [List.length_append]; simp; omega⟩
        · rw [List.mem_append, i1, List.map_append, List.mem_append]
          simp
        · rw [List.nodup_append]
          refine ⟨i2, by simp, ?_⟩
          rintro a ha b hb rfl
          rw [List.mem_singleton.mp hb] at ha
          exact e ha
  have := h ops.length (Nat.le_refl _)
  rwa [List.take_length] at this
theorem keysN_vals {ops : List Op} {k : Int} : k ∈ keysN ops ↔ k ∈ vals ops := by rw [(keysN_facts ops).1, vals_mem]
def keyAt (key : Op → Int) (ops : List Op) (j : Nat) : Int := match ops[j]? with | some q => key q | none => 0
/-- of the first n operations of the value v the first one whose key is least -/
def bst (key : Op → Int) (ops : List Op) (v : Int) : Nat → Option Nat
  | 0 => none
  | n + 1 => match ops[n]? with
    | none => bst key ops v n
    | some o => if o.v = v then (match bst key ops v n with
        | none => some n
        | some j => if key o < keyAt key ops j then some n else some j) else bst key ops v n
structure Best (key : Op → Int) (ops : List Op) (v : Int) (n j : Nat) (q : Op) : Prop where
  lt : j < n
  at_ : ops[j]? = some q
  val : q.v = v
  le : ∀ i o, i < n → ops[i]? = some o → o.v = v → key q ≤ key o
  first : ∀ i o, i < j → ops[i]? = some o → o.v = v → key q < key o
theorem bst_none {key : Op → Int} {ops : List Op} {v : Int} : ∀ {n : Nat}, bst key ops v n = none ↔ ∀ i o, i < n → ops[i]? = some o → o.v ≠ v
  | 0 => by simp [bst]
  | n + 1 => by
    unfold bst
    constructor
    · intro h i o hi ho e
      cases hx : ops[n]? with
      | none =>
        rw [hx] at h
        have := (bst_none (n := n)).mp h
        by_cases z : i = n
        · subst z; rw [hx] at ho; cases ho
        · exact this i o (by omega) ho e
      | some q =>
        rw [hx] at h
        by_cases c : q.v = v
        · simp only [c, if_true] at h
          cases hb : bst key ops v n with
          | none => rw [hb] at h; cases h
          | some k =>
            rw [hb] at h
            simp only at h
            by_cases d : key q < keyAt key ops k
            · rw [if_pos d] at h; cases h
            · rw [if_neg d] at h; cases h
        · simp only [c, if_false] at h
          have := (bst_none (n := n)).mp h
          by_cases z : i = n
          · subst z; rw [hx] at ho; cases ho; exact c e
          · exact this i o (by omega) ho e
    · intro h
      cases hx : ops[n]? with
      | none => exact (bst_none (n := n)).mpr fun i o hi => h i o (by omega)
      | some q =>
        have c := h n q (by omega) hx
        simp only [c, if_false]
        exact (bst_none (n := n)).mpr fun i o hi => h i o (by omega)
theorem bst_some {key : Op → Int} {ops : List Op} {v : Int} : ∀ {n j : Nat}, bst key ops v n = some j → ∃ q, Best key ops v n j q
  | 0, j, h => by simp [bst] at h
  | n + 1, j, h => by
    unfold bst at h
    cases hx : ops[n]? with
    | none =>
      rw [hx] at h
      obtain ⟨q, b⟩ := bst_some (n := n) h
      exact ⟨q, by have := b.lt; omega, b.at_, b.val, fun i o hi ho e => by
        by_cases z : i = n
        · subst z; rw [hx] at ho; cases ho
        · exact b.le i o (by omega) ho e, b.first⟩
    | some x =>
      rw [hx] at h
      by_cases c : x.v = v
      · simp only [c, if_true] at h
        cases hb : bst key ops v n with
        | none =>
          rw [hb] at h
          cases h
          have no := bst_none.mp hb
          exact ⟨x, by omega, hx, c, fun i o hi ho e => by
            by_cases z : i = n
            · subst z; rw [hx] at ho; cases ho; exact Int.le_refl _
            · exact absurd e (no i o (by omega) ho), fun i o hi ho e => absurd e (no i o hi ho)⟩
        | some k =>
          rw [hb] at h
          obtain ⟨q, b⟩ := bst_some (n := n) hb
          simp only at h
          have ek : keyAt key ops k = key q := by unfold keyAt; rw [b.at_]
          rw [ek] at h
          by_cases d : key x < key q
          · rw [if_pos d] at h
            cases h
            exact ⟨x, by omega, hx, c, fun i o hi ho e => by
              by_cases z : i = n
              · subst z; rw [hx] at ho; cases ho; exact Int.le_refl _
              · have := b.le i o (by omega) ho e; omega, fun i o hi ho e => by have := b.le i o hi ho e; omega⟩
          · rw [if_neg d] at h
            cases h
            exact ⟨q, by have := b.lt; omega, b.at_, b.val, fun i o hi ho e => by
              by_cases z : i = n
              · subst z; rw [hx] at ho; cases ho; omega
              · exact b.le i o (by omega) ho e, b.first⟩
      · simp only [c, if_false] at h
        obtain ⟨q, b⟩ := bst_some (n := n) h
        exact ⟨q, by have := b.lt; omega, b.at_, b.val, fun i o hi ho e => by
          by_cases z : i = n
          · subst z; rw [hx] at ho; cases ho; exact absurd e c
          · exact b.le i o (by omega) ho e, b.first⟩
theorem bst_keys {key : Op → Int} {ops : List Op} {v : Int} : (∃ q j, bst key ops v ops.length = some j ∧ Best key ops v ops.length j q) ↔ v ∈ vals ops := by
  constructor
  · rintro ⟨q, j, _, b⟩
    exact vals_at.mpr ⟨j, q, b.at_, b.val⟩
  · intro h
    obtain ⟨i, o, ho, e⟩ := vals_at.mp h
    cases hb : bst key ops v ops.length with
    | none =>
      have li : i < ops.length := by
        by_cases z : i < ops.length
        · exact z
        · rw [List.getElem?_eq_none (by omega)] at ho; cases ho
      exact absurd e (bst_none.mp hb i o li ho)
    | some j =>
      obtain ⟨q, b⟩ := bst_some hb
      exact ⟨q, j, rfl, b⟩
abbrev kE : Op → Int := fun o => o.e
abbrev kB : Op → Int := fun o => -o.b
def bE (ops : List Op) (v : Int) : Nat := (bst kE ops v ops.length).getD 0
def bB (ops : List Op) (v : Int) : Nat := (bst kB ops v ops.length).getD 0
theorem bE_best {ops : List Op} {v : Int} (h : v ∈ vals ops) : ∃ q, Best kE ops v ops.length (bE ops v) q := by
  obtain ⟨q, j, e, b⟩ := (bst_keys (key := kE)).mpr h
  exact ⟨q, by unfold bE; rw [e]; exact b⟩
theorem bB_best {ops : List Op} {v : Int} (h : v ∈ vals ops) : ∃ q, Best kB ops v ops.length (bB ops v) q := by
  obtain ⟨q, j, e, b⟩ := (bst_keys (key := kB)).mpr h
  exact ⟨q, by unfold bB; rw [e]; exact b⟩
/-- the first end of a value, its last begin -/
def firstE (ops : List Op) (v : Int) : Int := match ops[bE ops v]? with | some o => o.e | none => 0
def lastB (ops : List Op) (v : Int) : Int := match ops[bB ops v]? with | some o => o.b | none => 0
theorem firstE_is {ops : List Op} {v : Int} {q : Op} (b : Best kE ops v ops.length (bE ops v) q) : firstE ops v = q.e := by
  unfold firstE
  rw [b.at_]
theorem lastB_is {ops : List Op} {v : Int} {q : Op} (b : Best kB ops v ops.length (bB ops v) q) : lastB ops v = q.b := by
  unfold lastB
  rw [b.at_]
theorem firstE_le {ops : List Op} {v : Int} {i : Nat} {o : Op} (h : ops[i]? = some o) (e : o.v = v) : firstE ops v ≤ o.e := by
  obtain ⟨q, b⟩ := bE_best (vals_at.mpr ⟨i, o, h, e⟩)
  rw [firstE_is b]
  refine b.le i o ?_ h e
  by_cases z : i < ops.length
  · exact z
  · rw [List.getElem?_eq_none (by omega)] at h; cases h
theorem lastB_ge {ops : List Op} {v : Int} {i : Nat} {o : Op} (h : ops[i]? = some o) (e : o.v = v) : o.b ≤ lastB ops v := by
  obtain ⟨q, b⟩ := bB_best (vals_at.mpr ⟨i, o, h, e⟩)
  rw [lastB_is b]
  have := b.le i o (by
    by_cases z : i < ops.length
    · exact z
    · rw [List.getElem?_eq_none (by omega)] at h; cases h) h e
  simp only [kB] at this
  omega
/-- the places of the operations of a value -/
def idxN (ops : List Op) (v : Int) (n : Nat) : List Nat := (List.range n).filter fun i => match ops[i]? with | some o => decide (o.v = v) | none => false
def idxOf (ops : List Op) (v : Int) : List Nat := idxN ops v ops.length
theorem idxN_succ {ops : List Op} {v : Int} {n : Nat} {o : Op} (h : ops[n]? = some o) : idxN ops v (n + 1) = if o.v = v then idxN ops v n ++ [n] else idxN ops v n := by
  unfold idxN
  rw [List.range_succ, List.filter_append]
  by_cases e : o.v = v
  · simp [h, e]
  · simp [h, e]
theorem idx_mem {ops : List Op} {v : Int} {i : Nat} : i ∈ idxOf ops v ↔ ∃ o, ops[i]? = some o ∧ o.v = v := by
  unfold idxOf idxN
  rw [List.mem_filter, List.mem_range]
  constructor
  · rintro ⟨hi, h⟩
    rw [List.getElem?_eq_getElem hi] at h ⊢
    exact ⟨_, rfl, by simpa using h⟩
  · rintro ⟨o, h, e⟩
    refine ⟨?_, by rw [h]; simp [e]⟩
    by_cases z : i < ops.length
    · exact z
    · rw [List.getElem?_eq_none (by omega)] at h; cases h
theorem idxN_len {ops : List Op} {v : Int} {n : Nat} : (idxN ops v n).length ≤ n := by
  unfold idxN
  have := List.length_filter_le (fun i => match ops[i]? with | some o => decide (o.v = v) | none => false) (List.range n)
  rwa [List.length_range] at this
/-- the write of a value -/
def wrIx (ops : List Op) (v : Int) : Option Nat := (idxOf ops v).find? fun i => match ops[i]? with | some o => o.w | none => false
end LB

namespace LB
open PySem PySem.Spec PyProof.Rows L2
/-! ### a log at an address -/
abbrev opT (o : Op) : HO := .tup [.str (kindS o.w), .int o.v, .int o.b, .int o.e]
def LogAt (H : Hp) (t : Addr) (ops : List Op) : Prop := ∃ xs : List V, H t = some (.tup xs) ∧ xs.length = ops.length ∧ ∀ (i : Nat) (o : Op), ops[i]? = some o → ∃ u, xs[i]? = some (.ref u) ∧ H u = some (opT o)
theorem LogAt.keep {S : Addr → Prop} {H H' : Hp} {t : Addr} {ops : List Op} (h : LogAt H t ops) (k : Keep S H H') : LogAt H' t ops := by
  obtain ⟨xs, h1, h2, h3⟩ := h
  refine ⟨xs, k.tup _ _ h1, h2, fun i o e => ?_⟩
  obtain ⟨u, e1, e2⟩ := h3 i o e
  exact ⟨u, e1, k.tup _ _ e2⟩
theorem LogAt.get {H : Hp} {t : Addr} {ops : List Op} (h : LogAt H t ops) {i : Nat} {o : Op} (e : ops[i]? = some o) : ∃ (xs : List V) (u : Addr), H t = some (.tup xs) ∧ xs[i]? = some (.ref u) ∧ H u = some (opT o) := by
  obtain ⟨xs, h1, _, h3⟩ := h
  obtain ⟨u, e1, e2⟩ := h3 i o e
  exact ⟨xs, u, h1, e1, e2⟩
theorem DDs.of_at {S : Addr → Prop} {H : Hp} : ∀ {ops : List Op} {xs : List V}, xs.length = ops.length → (∀ (i : Nat) (o : Op), ops[i]? = some o → ∃ u, xs[i]? = some (.ref u) ∧ H u = some (opT o)) → DDs S H xs (ops.map Op.dat)
  | [], [], _, _ => .nil
  | o :: ops, x :: xs, hl, h => by
    obtain ⟨u, e1, e2⟩ := h 0 o rfl
    have e1 : x = .ref u := Option.some.inj e1
    subst e1
    exact .cons (.tup e2 (.cons (.str _) (.cons (.int _) (.cons (.int _) (.cons (.int _) .nil))))) (DDs.of_at (by simpa using hl) fun i o e => h (i + 1) o e)
theorem LogAt.dd {S : Addr → Prop} {H : Hp} {t : Addr} {ops : List Op} (h : LogAt H t ops) : DD S H (.ref t) (.tuple (ops.map Op.dat)) := by
  obtain ⟨xs, h1, h2, h3⟩ := h
  exact .tup h1 (DDs.of_at h2 h3)
theorem DD.opX {S : Addr → Prop} {H : Hp} {x : V} {o : Op} (h : DD S H x o.dat) : ∃ u, x = .ref u ∧ H u = some (opT o) := by
  obtain ⟨u, ys, rfl, hu, hy⟩ := h.tupX
  obtain ⟨x1, x2, x3, x4, rfl, d1, d2, d3, d4⟩ := hy.four
  rw [d1.strX, d2.intX, d3.intX, d4.intX] at hu
  exact ⟨u, rfl, hu⟩
theorem DDs.ops {S : Addr → Prop} {H : Hp} : ∀ {ops : List Op} {xs : List V}, DDs S H xs (ops.map Op.dat) → ∀ (i : Nat) (o : Op), ops[i]? = some o → ∃ u, xs[i]? = some (.ref u) ∧ H u = some (opT o)
  | [], _, _, i, o, e => by simp at e
  | o :: ops, _, .cons h r, 0, p, e => by
    have e : o = p := Option.some.inj e
    subst e
    obtain ⟨u, rfl, hu⟩ := h.opX
    exact ⟨u, rfl, hu⟩
  | o :: ops, _, .cons h r, i + 1, p, e => DDs.ops r i p e
theorem LogAt.of_dd {S : Addr → Prop} {H : Hp} {t : Addr} {ops : List Op} (h : DD S H (.ref t) (.tuple (ops.map Op.dat))) : LogAt H t ops := by
  obtain ⟨a, xs, e, ha, hx⟩ := h.tupX
  cases e
  exact ⟨xs, ha, by rw [hx.length, List.length_map], DDs.ops hx⟩
/-! ### walks of enumerate over a tuple -/
section
variable {K : PySem.W.Frag} {D : Ends} {σ : LB.St} {H : Hp} {Q : VK} {g : TG} {tb : TS} {a t : Addr} {xs : List V} {s : Nat}
theorem w_forEnT (es : σ[s]? = some (some (.ref a))) (Pv : Nat → LB.St → Hp → Prop) (h0 : Pv 0 σ H) (hG : ∀ i σ H, i ≤ xs.length → Pv i σ H → H a = some (.tup xs))
    (hs : ∀ (i : Nat) (x : V) (σ : LB.St) (H H' : Hp) (T : Addr), xs[i]? = some x → Pv i σ H → New H H' T (.tup [.int (i : Nat), x]) → g (.ref T) σ H' fun σ2 H2 => tb { D with nx := Pv (i + 1), ct := Pv (i + 1), bk := D.nx } σ2 H2)
    (hd : ∀ σ H, Pv xs.length σ H → D.nx σ H) : tFor (iEnA K (tCons (tVar s) tNil)) g tb D σ H := by
  refine .inr (w_cons (w_var es (w_nil ⟨a, xs, rfl, .inl (.inl (hG 0 σ H (Nat.zero_le _) h0)), ?_⟩)))
  refine for_it walk_enT Pv h0 (fun i σ H h1 h2 => .inl (.inl (hG i σ H h1 h2))) ?_ hd
  rintro i v σ H H' hi hp ⟨T, x, y, rfl, hT, rfl, e1, e2⟩
  cases e1
  exact hs i y σ H _ T e2 hp (.mk' hT)
theorem w_lcEnT {tt : TT} {te : TE} {vs : List Nat} (es : σ[s]? = some (some (.ref a))) (ha : H a = some (.tup xs))
    (h : ∀ D, H D = none → ∃ Pv : Nat → Hp → Prop, Pv 0 (upd H D (.lst [])) ∧ (∀ i H', i ≤ xs.length → Pv i H' → H' a = some (.tup xs)) ∧
      (∀ (i : Nat) (x : V) (H1 H2 : Hp) (T : Addr), xs[i]? = some x → Pv i H1 → New H1 H2 T (.tup [.int (i : Nat), x]) → g (.ref T) (wipe σ vs) H2 fun σ2 H3 => wipe σ2 vs = wipe σ vs ∧ tt σ2 H3 fun b H4 =>
        if b = true then te σ2 H4 fun y H5 => ∃ acc, H5 D = some (.lst acc) ∧ acc.length < sizeLine ∧ Pv (i + 1) (upd H5 D (.lst (acc ++ [y]))) else Pv (i + 1) H4) ∧ ∀ H', Pv xs.length H' → Q (.ref D) H') :
    tLc (iEnA K (tCons (tVar s) tNil)) g tt te vs σ H Q := by
  refine .inr (w_cons (w_var es (w_nil ⟨a, xs, rfl, .inl (.inl ha), fun D hD => ?_⟩)))
  obtain ⟨Pv, h0, hG, hs, hd⟩ := h D hD
  refine lc_it walk_enT Pv h0 (fun i H h1 h2 => .inl (.inl (hG i H h1 h2))) ?_ hd
  rintro i v H H' hi hp ⟨T, x, y, rfl, hT, rfl, e1, e2⟩
  cases e1
  exact hs i y H _ T e2 hp (.mk' hT)
theorem w_gt2 {i j : Nat} {u v : V} {T : Addr} {Qn : LB.St → Hp → Prop} (e : H T = some (.tup [u, v])) (h : Qn ((σ.set i (some u)).set j (some v)) H) : gTup K 2 (gCons (gName i) (gCons (gName j) gNil)) (.ref T) σ H Qn :=
  ⟨T, [u, v], rfl, .inl (.inl e), rfl, u, [v], rfl, v, [], rfl, rfl, h⟩
theorem wipe2 {i j : Nat} {a b : Option V} (n : i ≠ j) : wipe (((wipe σ [i, j]).set i a).set j b) [i, j] = wipe σ [i, j] := by
  show (((((σ.set j none).set i none).set i a).set j b).set j none).set i none = (σ.set j none).set i none
  rw [List.set_set, List.set_set, List.set_comm _ _ n, List.set_set, List.set_set]
/-- [i for i, o in enumerate(log) if o[1] == v] -/
theorem lc_idx {k i j : Nat} {v : Int} {ops : List Op} (es : σ[s]? = some (some (.ref t))) (ek : σ[k]? = some (some (.int v))) (lg : LogAt H t ops) (n1 : i ≠ j) (n2 : k ≠ i) (n3 : k ≠ j) (li : i < σ.length) (lj : j < σ.length) (few : ops.length ≤ 200)
    (q : ∀ (p : Addr) (H' : Hp), Keep NoS H H' → H p = none → H' p = some (.lst ((idxOf ops v).map fun n => V.int (n : Nat))) → Q (.ref p) H') :
    tLc (iEnA K (tCons (tVar s) tNil)) (gTup K 2 (gCons (gName i) (gCons (gName j) gNil))) (tTest (tOp (rEqA K) (tOp (rIx K) (tVar j) (tC (V.int 1))) (tVar k))) (tVar i) [i, j] σ H Q := by
  obtain ⟨xs, hx, hl, hi⟩ := id lg
  refine w_lcEnT es hx fun D hD => ⟨fun n H' => Keep NoS H H' ∧ H' D = some (.lst ((idxN ops v n).map fun n => V.int (n : Nat))), ⟨Keep.new hD, upd_same⟩, fun n H' _ h => h.1.tup _ _ hx, ?_, ?_⟩
  · rintro n x H1 H2 T hn ⟨k1, hb⟩ nw
    have ln : n < ops.length := by
      rw [← hl]
      by_cases z : n < xs.length
      · exact z
      · rw [List.getElem?_eq_none (by omega)] at hn; cases hn
    have ho : ops[n]? = some ops[n] := List.getElem?_eq_getElem ln
    obtain ⟨u, e1, e2⟩ := hi n _ ho
    rw [hn] at e1
    cases e1
    refine w_gt2 nw.at_ ⟨wipe2 n1, ?_⟩
    have k2 := k1.trans nw.keep
    have hu := k2.tup _ _ e2
    have hb2 := nw.get hb
    have s1 : ((wipe σ [i, j]).set i (some (V.int (n : Nat)))).set j (some (V.ref u)) = ((σ.set j none).set i (some (V.int (n : Nat)))).set j (some (V.ref u)) := by
      show (((σ.set j none).set i none).set i _).set j _ = _
      rw [List.set_set]
    rw [s1]
    have g1 : (((σ.set j none).set i (some (V.int (n : Nat)))).set j (some (V.ref u)))[j]? = some (some (V.ref u)) := by simp [lj]
    have g2 : (((σ.set j none).set i (some (V.int (n : Nat)))).set j (some (V.ref u)))[k]? = some (some (V.int v)) := by
      rw [List.getElem?_set_ne (Ne.symm n3), List.getElem?_set_ne (Ne.symm n2), List.getElem?_set_ne (Ne.symm n3)]
      exact ek
    have g3 : (((σ.set j none).set i (some (V.int (n : Nat)))).set j (some (V.ref u)))[i]? = some (some (V.int (n : Nat))) := by
      rw [List.getElem?_set_ne (Ne.symm n1)]
      simp [li]
    refine w_test (w_op (w_op (w_var g1 (w_c (o_ixt (n := 1) hu rfl (w_var g2 ?_))))))
    refine o_eqs rfl ⟨_, rfl, ?_⟩
    have es : decide (V.int ops[n].v = V.int v) = decide (ops[n].v = v) := by simp
    rw [es]
    refine w_ite (fun c => ?_) (fun c => ?_)
    · refine w_var g3 ⟨_, hb2, ?_, k2.put0 hD hb2, ?_⟩
      · rw [List.length_map]
        have := idxN_len (ops := ops) (v := v) (n := n)
        exact Nat.lt_of_le_of_lt (by omega : _ ≤ 1000) (by decide)
      · rw [idxN_succ ho, if_pos c, List.map_append, upd_same]
        rfl
    · refine ⟨k2, ?_⟩
      rw [idxN_succ ho, if_neg c]
      exact hb2
  · rintro H' ⟨k1, hb⟩
    rw [hl] at hb
    exact q D H' k1 hD hb
/-! ### further steps -/
def kDget (Q : VK) (x y : V) : Hp → Prop := fun H2 => ∃ a v, x = .ref a ∧ DGet H2 a y (some v) ∧ Q v H2
def kDin (Q : VK) (y x : V) : Hp → Prop := fun H2 => ∃ a o, x = .ref a ∧ DGet H2 a y o ∧ Q (.bl o.isSome) H2
def kDni (Q : VK) (y x : V) : Hp → Prop := fun H2 => ∃ a o, x = .ref a ∧ DGet H2 a y o ∧ Q (.bl (!o.isSome)) H2
def kDput (R : Hp → Prop) (v x y : V) : Hp → Prop := fun H3 => ∃ a H4, x = .ref a ∧ DPut H3 a y v H4 ∧ R H4
theorem w_dget {td ty : TE} (h : td σ H fun x H1 => ty σ H1 fun y H2 => kDget Q x y H2) : tDGet td ty σ H Q := h
theorem w_din {td ty : TE} (h : ty σ H fun y H1 => td σ H1 fun x H2 => kDin Q y x H2) : tDIn ty td σ H Q := h
theorem w_dni {td ty : TE} (h : ty σ H fun y H1 => td σ H1 fun x H2 => kDni Q y x H2) : tDNotIn ty td σ H Q := h
theorem w_dput {td ty tv : TE} (h : tv σ H fun v H1 => td σ H1 fun x H2 => ty σ H2 fun y H3 => kDput (D.nx σ) v x y H3) : sDPut td ty tv D σ H := h
theorem dget_some {vs : List Int} {f : Int → V} {v : Int} : (if v ∈ vs then some (f v) else none).isSome = decide (v ∈ vs) := by by_cases z : v ∈ vs <;> simp [z]
theorem o_dget {vs : List Int} {f : Int → V} {v : Int} (e : H a = some (.dK (mkD vs f))) (hv : v ∈ vs) (h : Q (f v) H) : kDget Q (.ref a) (.int v) H :=
  ⟨a, f v, rfl, by have := mkD_get (v := v) e; rwa [if_pos hv] at this, h⟩
theorem o_dgetR {vs : List Int} {f : Int → V} {v : Int} (e : Rd H a (.dK (mkD vs f))) (hv : v ∈ vs) (h : Q (f v) H) : kDget Q (.ref a) (.int v) H :=
  ⟨a, f v, rfl, .inl ⟨_, .inl v, e, rfl, by rw [mkD_val, if_pos hv]⟩, h⟩
theorem o_dgetS {x y : V} (e : DGet H a y (some x)) (h : Q x H) : kDget Q (.ref a) y H := ⟨a, x, rfl, e, h⟩
theorem o_dni {vs : List Int} {f : Int → V} {v : Int} (e : H a = some (.dK (mkD vs f))) (h : Q (.bl (!decide (v ∈ vs))) H) : kDni Q (.int v) (.ref a) H :=
  ⟨a, _, rfl, mkD_get e, by rw [dget_some]; exact h⟩
theorem o_din {vs : List Int} {f : Int → V} {v : Int} (e : H a = some (.dK (mkD vs f))) (h : Q (.bl (decide (v ∈ vs))) H) : kDin Q (.int v) (.ref a) H :=
  ⟨a, _, rfl, mkD_get e, by rw [dget_some]; exact h⟩
theorem o_dput {vs : List Int} {f : Int → V} {v : Int} {x : V} {R : Hp → Prop} (e : H a = some (.dK (mkD vs f))) (few : vs.length ≤ 1000) (h : R (upd H a (.dK (putK (mkD vs f) (.inl v) x)))) : kDput R x (.ref a) (.int v) H :=
  ⟨a, _, rfl, DPut.k (k := .inl v) e (by rw [mkD_len]; exact Nat.lt_of_le_of_lt few (by decide)), h⟩
theorem o_niIntsT {ws : List Int} {z : Int} (e : H a = some (.tup (ws.map V.int))) (q : Q (.bl (!decide (z ∈ ws))) H) : rNiA K (.int z) (.ref a) H Q :=
  .inl ⟨a, _, rfl, .inr (.inl (.inl e)), rfl, flat_ints, by rw [if_pos rfl, inV_ints]; exact q⟩
end
/-! ### how a dict of places grows -/
abbrev bstF (key : Op → Int) (ops : List Op) (n : Nat) : Int → V := fun v => .int (((bst key ops v n).getD 0 : Nat) : Int)
theorem bst_in {key : Op → Int} {ops : List Op} {v : Int} {n : Nat} (hn : n ≤ ops.length) : v ∈ keysN (ops.take n) ↔ ∃ j, bst key ops v n = some j := by
  rw [(keysN_facts _).1]
  cases hb : bst key ops v n with
  | none =>
    have no := bst_none.mp hb
    constructor
    · intro h
      obtain ⟨o, ho, e⟩ := List.mem_map.mp h
      obtain ⟨i, hi, e2⟩ := List.mem_iff_getElem.mp ho
      rw [List.length_take] at hi
      rw [List.getElem_take] at e2
      exact absurd e (no i o (by omega) (by rw [List.getElem?_eq_getElem (by omega), e2]))
    · rintro ⟨j, h⟩; cases h
  | some j =>
    obtain ⟨q, b⟩ := bst_some hb
    refine ⟨fun _ => ⟨j, rfl⟩, fun _ => List.mem_map.mpr ⟨q, ?_, b.val⟩⟩
    have h1 : (ops.take n)[j]? = some q := by rw [List.getElem?_take_of_lt b.lt]; exact b.at_
    exact List.mem_of_getElem? h1
theorem bst_succ {key : Op → Int} {ops : List Op} {v : Int} {n : Nat} {o : Op} (ho : ops[n]? = some o) : bst key ops v (n + 1) = if o.v = v then (match bst key ops v n with | none => some n | some j => if key o < keyAt key ops j then some n else some j) else bst key ops v n := by
  (rw [bst, ho]) <;> (
    by_cases e : o.v = v
    · (simp only [e, if_true]) <;> (cases bst key ops v n <;> rfl)
    · simp only [e, if_false])
theorem keys_succ {ops : List Op} {n : Nat} {o : Op} (ho : ops[n]? = some o) : keysN (ops.take (n + 1)) = if o.v ∈ keysN (ops.take n) then keysN (ops.take n) else keysN (ops.take n) ++ [o.v] := by
  (rw [List.take_add_one, ho]) <;> exact keysN_snoc
theorem grow_new {key : Op → Int} {ops : List Op} {n : Nat} {o : Op} (ho : ops[n]? = some o) (hv : o.v ∉ keysN (ops.take n)) :
    putK (mkD (keysN (ops.take n)) (bstF key ops n)) (.inl o.v) (.int (n : Nat)) = mkD (keysN (ops.take (n + 1))) (bstF key ops (n + 1)) := by
  have ln : n < ops.length := by
    by_cases z : n < ops.length
    · exact z
    · rw [List.getElem?_eq_none (by omega)] at ho; cases ho
  rw [mkD_put, keys_succ ho]
  refine mkD_congr fun u _ => ?_
  simp only [bstF]
  rw [bst_succ ho]
  by_cases e : u = o.v
  · subst e
    have : bst key ops o.v n = none := by
      cases z : bst key ops o.v n with
      | none => rfl
      | some j => exact absurd ((bst_in (by omega)).mpr ⟨j, z⟩) hv
    simp [this]
  · have e2 : ¬ o.v = u := fun z => e z.symm
    simp [e, e2]
theorem grow_old {key : Op → Int} {ops : List Op} {n : Nat} {o : Op} (ho : ops[n]? = some o) (hv : o.v ∈ keysN (ops.take n)) :
    ∃ j q, bst key ops o.v n = some j ∧ ops[j]? = some q ∧ (key o < key q → putK (mkD (keysN (ops.take n)) (bstF key ops n)) (.inl o.v) (.int (n : Nat)) = mkD (keysN (ops.take (n + 1))) (bstF key ops (n + 1))) ∧
      (¬ key o < key q → mkD (keysN (ops.take n)) (bstF key ops n) = mkD (keysN (ops.take (n + 1))) (bstF key ops (n + 1))) := by
  have ln : n < ops.length := by
    by_cases z : n < ops.length
    · exact z
    · rw [List.getElem?_eq_none (by omega)] at ho; cases ho
  obtain ⟨j, hj⟩ := (bst_in (key := key) (by omega)).mp hv
  obtain ⟨q, b⟩ := bst_some hj
  have ek : keyAt key ops j = key q := by unfold keyAt; rw [b.at_]
  refine ⟨j, q, hj, b.at_, fun c => ?_, fun c => ?_⟩
  · rw [mkD_put, keys_succ ho]
    refine mkD_congr fun u _ => ?_
    simp only [bstF]
    rw [bst_succ ho]
    by_cases e : u = o.v
    · subst e
      simp [hj, ek, c]
    · have e2 : ¬ o.v = u := fun z => e z.symm
      simp [e, e2]
  · rw [keys_succ ho, if_pos hv]
    refine mkD_congr fun u _ => ?_
    simp only [bstF]
    rw [bst_succ ho]
    by_cases e : o.v = u
    · subst e
      simp [hj, ek, c]
    · simp [e]
end LB

namespace LB
open PySem PySem.Spec PyProof.Rows L2
/-! ### name = {..: .. for ..} on one line, the name a local -/
section
variable {X : Cx} {i : Nat} {y : Str} {py : Pos} {kx vx tg iter : Expr} {ifs : List Expr} {scope : Scope} {own : List (Str × Nat)} {pos spos : Pos} {wi : TI} {g : TG} {tt : TT} {tk tv : TE}
theorem ps_setDc (hc : X.calm = true) (hN : X.N.Nodup) (hy : X.N[i]? = some y) (loc : X.env.scope.names.lookup y = some .local) (sw : swapsWith (.DictComp kx vx [⟨tg, iter, ifs, 0⟩] scope pos) (some (.Name y py)) spos.line X.env = pure true)
    (hi : PI X tg iter wi) (ok : BlkOk X.N X.env.scope scope own) (hg : ∀ (s : Shared) (H : Hp) (C : Addr) (cl : List (Str × Addr)) (fp : List Addr), PG (X.blk s H scope (compEnvC scope cl C X.env) fp) tg g)
    (ht : ∀ (s : Shared) (H : Hp) (C : Addr) (cl : List (Str × Addr)) (fp : List Addr), PTs (X.blk s H scope (compEnvC scope cl C X.env) fp) ifs tt) (hk : ∀ (s : Shared) (H : Hp) (C : Addr) (cl : List (Str × Addr)) (fp : List Addr), PE (X.blk s H scope (compEnvC scope cl C X.env) fp) kx tk)
    (hv : ∀ (s : Shared) (H : Hp) (C : Addr) (cl : List (Str × Addr)) (fp : List Addr), PE (X.blk s H scope (compEnvC scope cl C X.env) fp) vx tv) (hs : ∀ x, foldedSetIterable iter X.env x = pure x := by intro _; rfl) :
    PS X (.Assign [.Name y py] (.DictComp kx vx [⟨tg, iter, ifs, 0⟩] scope pos) spos) (tAsg (tDc wi g tt tk tv (own.map (·.2))) (gName i)) := by
  constructor
  intro pins s σ H D I h
  have h : tDc wi g tt tk tv (own.map (·.2)) σ H (fun x H1 => gName i x σ H1 D.nx) := h
  rw [exec_Assign_Name_used _ _ _ _ sw]
  refine wpAny_bind (wpAny_standAt (wpAny_bind (show wpAny _ X.A (do let _ ← comprehension (.DictComp kx vx [⟨tg, iter, ifs, 0⟩] scope pos) scope X.env (firstIterPos [⟨tg, iter, ifs, 0⟩] pos) newDict false (eval iter X.env) (some (assign (.Name y py) X.env))) _ _ s from ?_)))
  refine wpAny_bind (thn (dc_core (Qf := fun _ s' => SP X pins D .next s') hc hN I hi ok hg ht hk hv hs h ?_) fun _ s' hq => wpAny_pure (wpAny_pure hq))
  rintro L C s' m H' I' q hn ⟨f0, f1, f2, f3, f4, f5⟩
  refine (show wpAny _ _ (assign (.Name y py) X.env (.ref L)) _ _ _ from wpAny_assign_Name (store_ok2 (v := V.ref L) I' hN hy (.inl loc) rfl ?_ (.inr loc)))
  rintro s2 I2 ⟨a, sb, ha⟩
  have ne : C ≠ a := by
    rcases ha with rfl | ha
    · exact f1
    · exact fun e => f4 y a ha e.symm
  exact ⟨m, hn.sameBut sb ne, fun h3 sb3 => ⟨_, H', I2.turned (t' := s2.toks) (fun b o nb e => (sb3.2 b nb).trans e) f0 f1 f3 f4 f5, q⟩⟩
end
theorem sw_trueD {kx vx : Expr} {gs : List Comprehension} {scope : Scope} {pos py : Pos} {y : Str} {l : Nat} {env : Env} (hk : env.scope.kind = .function) (hy : env.scope.names.lookup y = some .local) (hl : (py.line == pos.line) = true)
    (ha : (scope.names.any fun (n, k) => n == y && (k == .local || k == .cell)) = false) : swapsWith (.DictComp kx vx gs scope pos) (some (.Name y py)) l env = pure true := by
  have e1 : env.kindOf y = some .local := hy
  have e2 : env.blockKind = .function := by
    unfold Env.blockKind
    rw [hk]
    rfl
  unfold swapsWith
  simp only [e2, e1, ha, Expr.pos, hl]
  rfl
end LB

open PySem PySem.Spec PyProof.Rows L2 LB
/-! the tactic: one step of a reading; many -/
local macro_rules | `(tactic| walk_at "w1_9") => `(tactic| first
  | with_reducible refine w_seq ?_ | with_reducible refine w_asg ?_ | with_reducible refine w_drop ?_ | with_reducible refine w_ret ?_ | with_reducible refine w_next ?_
  | with_reducible refine w_ifs ?_ | with_reducible refine w_forR1 ?_ | with_reducible refine w_forR2 ?_ | with_reducible refine w_forL ?_ | with_reducible refine w_forT ?_ | with_reducible refine w_name ?_ | with_reducible refine w_sub ?_ | with_reducible refine w_par ?_
  | with_reducible refine w_var (by with_unfolding_all rfl) ?_ | with_reducible refine w_c ?_ | with_reducible refine w_op ?_ | with_reducible refine w_un ?_
  | with_reducible refine w_test ?_ | with_reducible refine w_tb ?_ | with_reducible refine w_nil ?_ | with_reducible refine w_cons ?_ | with_reducible refine w_cb ?_ | with_reducible refine w_call ?_
  | with_reducible refine w_not ?_ | with_reducible refine w_and ?_ | with_reducible refine w_or ?_ | with_reducible refine w_andV ?_ | with_reducible refine w_orV ?_ | with_reducible refine w_notV ?_
  | with_reducible refine w_ife ?_ | with_reducible refine w_chain ?_ | with_reducible refine w_bm ?_ | with_reducible refine w_sl ?_ | with_reducible refine w_part ?_ | with_reducible refine w_nopart ?_
  | with_reducible refine w_exb ?_ | with_reducible refine w_exi ?_ | with_reducible refine w_ex2 ?_ | with_reducible refine w_ex3 ?_ | with_reducible refine w_lstrg ?_ | with_reducible refine w_rg2 ?_ | with_reducible refine w_rg1 ?_ | with_reducible refine w_exij ?_ | with_reducible refine w_tup ?_ | with_reducible refine w_lst ?_
  | with_reducible refine o_add ?_ | with_reducible refine o_sub ?_ | with_reducible refine o_neg ?_ | with_reducible refine o_lt ?_ | with_reducible refine o_le ?_ | with_reducible refine o_gt ?_ | with_reducible refine o_ge ?_
  | with_reducible refine o_ixL (by assumption) (by decide) (by with_unfolding_all rfl) ?_ | with_reducible refine o_ixT (by assumption) (by decide) (by with_unfolding_all rfl) ?_
  | with_reducible refine o_mod (by first | decide | omega) ?_ | with_reducible refine o_mul (by first | decide | omega) ?_ | with_reducible refine o_fdv (by first | decide | omega) (by first | decide | omega) ?_ | with_reducible refine o_setL (by assumption) (by decide) (by simp) ?_
  | with_reducible refine oo_addi ?_ | with_reducible refine oo_sub ?_ | with_reducible refine oo_neg ?_ | with_reducible refine w_rev ?_ | with_reducible refine w_m0 ?_
  | with_reducible refine w_par3 ?_ | with_reducible refine w_tyl (by assumption) ?_
  | with_reducible refine o_abs ?_ | with_reducible refine o_eqs (by with_unfolding_all rfl) ?_ | with_reducible refine o_nes (by with_unfolding_all rfl) ?_ | with_reducible refine o_max2 ?_ | with_reducible refine o_min2 ?_ | with_reducible refine o_isiX (by assumption) ?_ | with_reducible refine o_lenl (by assumption) ?_ | with_reducible refine o_lent (by assumption) ?_ | with_reducible refine o_int1b ?_)
local macro_rules | `(tactic| walk_at "ws_9") => `(tactic| repeat (first | walk_at "w1_9" | dsimp only [List.set_cons_zero, List.set_cons_succ]))
namespace LB
/-! ### the promises of values.py and of surely_before, where nothing is raised -/
def spValues : Sp := fun vs H Q _ => ∃ (t : Addr) (ops : List Op), vs = [.ref t] ∧ LogAt H t ops ∧ ops.length ≤ 200 ∧ ∀ (p : Addr) (H' : Hp), Keep NoS H H' → H p = none → H' p = some (.tup ((vals ops).map V.int)) → Q (.ref p) H'
theorem spValues_arity {vs : List V} {H : Hp} {Q : VK} {E : XK} (h : spValues vs H Q E) : vs.length = 1 := by obtain ⟨_, _, rfl, _⟩ := h; rfl
def spDemand : Sp := fun vs H Q _ => ∃ (t : Addr) (ops : List Op) (v : Int), vs = [.ref t, .int v] ∧ LogAt H t ops ∧ ops.length ≤ 200 ∧ v ∈ vals ops ∧ ∀ H', Keep NoS H H' → Q .non H'
theorem spDemand_arity {vs : List V} {H : Hp} {Q : VK} {E : XK} (h : spDemand vs H Q E) : vs.length = 2 := by obtain ⟨_, _, _, rfl, _⟩ := h; rfl
def spEnded : Sp := fun vs H Q _ => ∃ (t : Addr) (ops : List Op), vs = [.ref t] ∧ LogAt H t ops ∧ ops.length ≤ 200 ∧ ∀ (p : Addr) (H' : Hp), Keep NoS H H' → H p = none → H' p = some (.dK (mkD (keysN ops) (bstF kE ops ops.length))) → Q (.ref p) H'
theorem spEnded_arity {vs : List V} {H : Hp} {Q : VK} {E : XK} (h : spEnded vs H Q E) : vs.length = 1 := by obtain ⟨_, _, rfl, _⟩ := h; rfl
def spBegun : Sp := fun vs H Q _ => ∃ (t : Addr) (ops : List Op), vs = [.ref t] ∧ LogAt H t ops ∧ ops.length ≤ 200 ∧ ∀ (p : Addr) (H' : Hp), Keep NoS H H' → H p = none → H' p = some (.dK (mkD (keysN ops) (bstF kB ops ops.length))) → Q (.ref p) H'
theorem spBegun_arity {vs : List V} {H : Hp} {Q : VK} {E : XK} (h : spBegun vs H Q E) : vs.length = 1 := by obtain ⟨_, _, rfl, _⟩ := h; rfl
/-- the span of a value: its first end, None for 0, its last begin -/
def spanF (ops : List Op) (v : Int) : V := if v = 0 then .non else .int (firstE ops v)
abbrev spanT (ops : List Op) (v : Int) : HO := .tup [spanF ops v, .int (lastB ops v)]
def SpansAt (H : Hp) (d : Addr) (ops : List Op) : Prop := ∃ f : Int → V, Rd H d (.dK (mkD (keysN ops) f)) ∧ ∀ v ∈ keysN ops, ∃ t, f v = .ref t ∧ H t = some (spanT ops v)
theorem SpansAt.keep {S : Addr → Prop} {H H' : Hp} {d : Addr} {ops : List Op} (h : SpansAt H d ops) (k : Keep S H H') (n : ¬ S d) : SpansAt H' d ops := by
  obtain ⟨f, h1, h2⟩ := h
  refine ⟨f, ?_, fun v hv => ?_⟩
  · rcases h1 with h1 | ⟨o, h1⟩
    · exact .inl (k.all _ _ n h1)
    · exact .inr ⟨o, k.all _ _ n h1⟩
  · obtain ⟨t, e1, e2⟩ := h2 v hv
    exact ⟨t, e1, k.tup _ _ e2⟩
theorem SpansAt.get {H : Hp} {d : Addr} {ops : List Op} {v : Int} (h : SpansAt H d ops) (hv : v ∈ vals ops) : ∃ t, DGet H d (.int v) (some (.ref t)) ∧ H t = some (spanT ops v) := by
  obtain ⟨f, h1, h2⟩ := h
  have hk := keysN_vals.mpr hv
  obtain ⟨t, e1, e2⟩ := h2 v hk
  exact ⟨t, .inl ⟨_, .inl v, h1, rfl, by rw [mkD_val, if_pos hk, e1]⟩, e2⟩
def spSpans : Sp := fun vs H Q _ => ∃ (t : Addr) (ops : List Op), vs = [.ref t] ∧ LogAt H t ops ∧ ops.length ≤ 200 ∧ ∀ (p : Addr) (H' : Hp), Keep NoS H H' → H p = none → SpansAt H' p ops → Q (.ref p) H'
theorem spSpans_arity {vs : List V} {H : Hp} {Q : VK} {E : XK} (h : spSpans vs H Q E) : vs.length = 1 := by obtain ⟨_, _, rfl, _⟩ := h; rfl
def spOpsOf : Sp := fun vs H Q _ => ∃ (t : Addr) (ops : List Op) (v : Int), vs = [.ref t, .int v] ∧ LogAt H t ops ∧ ops.length ≤ 200 ∧ v ∈ vals ops ∧ ∀ (p : Addr) (H' : Hp), Keep NoS H H' → H p = none → H' p = some (.tup ((idxOf ops v).map fun n => V.int (n : Nat))) → Q (.ref p) H'
theorem spOpsOf_arity {vs : List V} {H : Hp} {Q : VK} {E : XK} (h : spOpsOf vs H Q E) : vs.length = 2 := by obtain ⟨_, _, _, rfl, _⟩ := h; rfl
def optN : Option Nat → V
  | some n => .int (n : Nat)
  | none => .non
def spWriteOf : Sp := fun vs H Q _ => ∃ (t : Addr) (ops : List Op) (v : Int), vs = [.ref t, .int v] ∧ LogAt H t ops ∧ ops.length ≤ 200 ∧ v ∈ vals ops ∧ ∀ H', Keep NoS H H' → Q (optN (wrIx ops v)) H'
theorem spWriteOf_arity {vs : List V} {H : Hp} {Q : VK} {E : XK} (h : spWriteOf vs H Q E) : vs.length = 2 := by obtain ⟨_, _, _, rfl, _⟩ := h; rfl
def spFirstEnd : Sp := fun vs H Q _ => ∃ (t : Addr) (ops : List Op) (v : Int), vs = [.ref t, .int v] ∧ LogAt H t ops ∧ ops.length ≤ 200 ∧ v ∈ vals ops ∧ ∀ H', Keep NoS H H' → Q (spanF ops v) H'
theorem spFirstEnd_arity {vs : List V} {H : Hp} {Q : VK} {E : XK} (h : spFirstEnd vs H Q E) : vs.length = 2 := by obtain ⟨_, _, _, rfl, _⟩ := h; rfl
def spLastBegin : Sp := fun vs H Q _ => ∃ (t : Addr) (ops : List Op) (v : Int), vs = [.ref t, .int v] ∧ LogAt H t ops ∧ ops.length ≤ 200 ∧ v ∈ vals ops ∧ ∀ H', Keep NoS H H' → Q (.int (lastB ops v)) H'
theorem spLastBegin_arity {vs : List V} {H : Hp} {Q : VK} {E : XK} (h : spLastBegin vs H Q E) : vs.length = 2 := by obtain ⟨_, _, _, rfl, _⟩ := h; rfl
/-- a span before another one -/
def spBef (f1 : V) (tol l2 : Int) : Bool := match f1 with | .int i => decide (i + tol < l2) | _ => true
def spSpanBefore : Sp := fun vs H Q _ => ∃ (a b : Addr) (f1 f2 : V) (l1 l2 tol : Int), vs = [.ref a, .ref b, .int tol] ∧ H a = some (.tup [f1, .int l1]) ∧ H b = some (.tup [f2, .int l2]) ∧ (f1 = .non ∨ ∃ i, f1 = .int i) ∧ Q (.bl (spBef f1 tol l2)) H
theorem spSpanBefore_arity {vs : List V} {H : Hp} {Q : VK} {E : XK} (h : spSpanBefore vs H Q E) : vs.length = 3 := by obtain ⟨_, _, _, _, _, _, _, rfl, _⟩ := h; rfl
/-- a value before another one -/
def befV (ops : List Op) (tol u v : Int) : Bool := spBef (spanF ops u) tol (lastB ops v)
def isBef (ops : List Op) (tol u v : Int) : Bool := if u = v then false else befV ops tol u v
def spIsBefore : Sp := fun vs H Q _ => ∃ (t : Addr) (ops : List Op) (tol u v : Int), vs = [.ref t, .int tol, .int u, .int v] ∧ LogAt H t ops ∧ ops.length ≤ 200 ∧ u ∈ vals ops ∧ v ∈ vals ops ∧ ∀ H', Keep NoS H H' → Q (.bl (isBef ops tol u v)) H'
theorem spIsBefore_arity {vs : List V} {H : Hp} {Q : VK} {E : XK} (h : spIsBefore vs H Q E) : vs.length = 4 := by obtain ⟨_, _, _, _, _, rfl, _⟩ := h; rfl
theorem spanF_is {ops : List Op} {v : Int} : spanF ops v = .non ∨ ∃ i, spanF ops v = .int i := by
  unfold spanF
  by_cases h : v = 0
  · exact .inl (if_pos h)
  · exact .inr ⟨_, if_neg h⟩
def spIsIndex : Sp := fun vs H Q _ => ∃ (t : Addr) (xs : List V) (x : V) (d : PyData) (S : Addr → Prop), vs = [.ref t, x] ∧ H t = some (.tup xs) ∧ DD S H x d ∧ Q (.bl (within d 0 ((xs.length : Int) - 1))) H
theorem spIsIndex_arity {vs : List V} {H : Hp} {Q : VK} {E : XK} (h : spIsIndex vs H Q E) : vs.length = 2 := by obtain ⟨_, _, _, _, _, rfl, _⟩ := h; rfl
def sureB (ops : List Op) (tol : Int) (i j : Nat) : Bool := match ops[i]?, ops[j]? with | some a, some b => decide (a.e + tol < b.b) | _, _ => false
def spSurely : Sp := fun vs H Q _ => ∃ (t : Addr) (ops : List Op) (tol : Int) (i j : Nat), vs = [.ref t, .int tol, .int (i : Nat), .int (j : Nat)] ∧ LogAt H t ops ∧ i < ops.length ∧ j < ops.length ∧ ∀ H', Keep NoS H H' → Q (.bl (sureB ops tol i j)) H'
theorem spSurely_arity {vs : List V} {H : Hp} {Q : VK} {E : XK} (h : spSurely vs H Q E) : vs.length = 4 := by obtain ⟨_, _, _, _, _, rfl, _⟩ := h; rfl

def t_values_of (K : PySem.W.Frag) : TS :=
  (tRet (tCB (rTupOf K) (tCons (tSortC K (tVar 0) 1 (tOp (rIx K) (tVar 1) (tC (V.int 1)))) tNil)))

def t_demand_value (K : PySem.W.Frag) : TS :=
  (tIfS (tOr (tNot (tB (tCall spIsInt [] E0 (tCons (tVar 1) tNil)))) (tTest (tOp (rNiA K) (tVar 1) (tCall spValues [] E0 (tCons (tVar 0) tNil)))))
    tNever tNext)

def t_ended_first_1 (K : PySem.W.Frag) : TS :=
  (tSeq (tAsg (tOp (rIx K) (tVar 3) (tC (V.int 1))) (gName 4))
    (tIfS (tOr (tB (tDNotIn (tVar 4) (tVar 1))) (tTest (tOp rLtI (tOp (rIx K) (tVar 3) (tC (V.int 3))) (tOp (rIx K) (tOp (rIx K) (tVar 0) (tDGet (tVar 1) (tVar 4))) (tC (V.int 3))))))
    (sDPut (tVar 1) (tVar 4) (tVar 2)) tNext))

def t_ended_first (K : PySem.W.Frag) : TS :=
  (tSeq (tAsg tDNewK (gName 1))
    (tSeq (tFor (iEnA K (tCons (tVar 0) tNil)) (gTup K 2 (gCons (gName 2) (gCons (gName 3) gNil)))
    (t_ended_first_1 K))
    (tRet (tVar 1))))

def t_begun_last_1 (K : PySem.W.Frag) : TS :=
  (tSeq (tAsg (tOp (rIx K) (tVar 3) (tC (V.int 1))) (gName 4))
    (tIfS (tOr (tB (tDNotIn (tVar 4) (tVar 1))) (tTest (tOp rGtI (tOp (rIx K) (tVar 3) (tC (V.int 2))) (tOp (rIx K) (tOp (rIx K) (tVar 0) (tDGet (tVar 1) (tVar 4))) (tC (V.int 2))))))
    (sDPut (tVar 1) (tVar 4) (tVar 2)) tNext))

def t_begun_last (K : PySem.W.Frag) : TS :=
  (tSeq (tAsg tDNewK (gName 1))
    (tSeq (tFor (iEnA K (tCons (tVar 0) tNil)) (gTup K 2 (gCons (gName 2) (gCons (gName 3) gNil)))
    (t_begun_last_1 K))
    (tRet (tVar 1))))

def t_spans_of (K : PySem.W.Frag) : TS :=
  (tSeq (tAsg (tCall spEnded [] E0 (tCons (tVar 0) tNil)) (gName 1))
    (tSeq (tAsg (tCall spBegun [] E0 (tCons (tVar 0) tNil)) (gName 2))
    (tSeq (tLock (tAsg (tDc (iKeys (tVar 1)) (gName 4) tYes (tVar 4) (tTup (tCons (tOp (rIx K) (tOp (rIx K) (tVar 0) (tDGet (tVar 1) (tVar 4))) (tC (V.int 3))) (tCons (tOp (rIx K) (tOp (rIx K) (tVar 0) (tDGet (tVar 2) (tVar 4))) (tC (V.int 2))) tNil))) [4]) (gName 3)))
    (tSeq (tIfS (tB (tDIn (tC (V.int 0)) (tVar 3)))
    (sDPut (tVar 3) (tC (V.int 0)) (tTup (tCons (tC V.non) (tCons (tOp (rIx K) (tDGet (tVar 3) (tC (V.int 0))) (tC (V.int 1))) tNil)))) tNext)
    (tRet (tVar 3))))))

def t_is_span_before (K : PySem.W.Frag) : TS :=
  (tRet (tOrV (tOp rIsA (tOp (rIx K) (tVar 0) (tC (V.int 0))) (tC V.non)) (tOp rLtI (tOp (rAddA K) (tOp (rIx K) (tVar 0) (tC (V.int 0))) (tVar 2)) (tOp (rIx K) (tVar 1) (tC (V.int 1))))))

def t_is_before (K : PySem.W.Frag) : TS :=
  (tSeq (tDrop (tCall spDemand [] E0 (tCons (tVar 0) (tCons (tVar 2) tNil))))
    (tSeq (tDrop (tCall spDemand [] E0 (tCons (tVar 0) (tCons (tVar 3) tNil))))
    (tSeq (tAsg (tCall spSpans [] E0 (tCons (tVar 0) tNil)) (gName 4))
    (tRet (tAndV (tOp (rNeA K) (tVar 2) (tVar 3)) (tCall spSpanBefore [] E0 (tCons (tDGet (tVar 4) (tVar 2)) (tCons (tDGet (tVar 4) (tVar 3)) (tCons (tVar 1) tNil)))))))))

def t_is_index (K : PySem.W.Frag) : TS :=
  (tRet (tCall spWithin [] E0 (tCons (tVar 1) (tCons (tC (V.int 0)) (tCons (tOp rSubI (tCB (rLen K) (tCons (tVar 0) tNil)) (tC (V.int 1))) tNil)))))

def t_surely_before_1 (K : PySem.W.Frag) : TS :=
  (tIfS (tNot (tB (tCall spIsIndex [] E0 (tCons (tVar 0) (tCons (tVar 4) tNil)))))
    tNever tNext)

def t_surely_before (K : PySem.W.Frag) : TS :=
  (tSeq (tFor (iTup K (tTup (tCons (tVar 2) (tCons (tVar 3) tNil)))) (gName 4)
    (t_surely_before_1 K))
    (tRet (tOp rLtI (tOp (rAddA K) (tOp (rIx K) (tOp (rIx K) (tVar 0) (tVar 2)) (tC (V.int 3))) (tVar 1)) (tOp (rIx K) (tOp (rIx K) (tVar 0) (tVar 3)) (tC (V.int 2))))))

def t_operations_of (K : PySem.W.Frag) : TS :=
  (tSeq (tDrop (tCall spDemand [] E0 (tCons (tVar 0) (tCons (tVar 1) tNil))))
    (tRet (tCB (rTupOf K) (tCons (tLc (iEnA K (tCons (tVar 0) tNil)) (gTup K 2 (gCons (gName 2) (gCons (gName 3) gNil))) (tTest (tOp (rEqA K) (tOp (rIx K) (tVar 3) (tC (V.int 1))) (tVar 1))) (tVar 2) [2, 3]) tNil))))

def t_write_of_1 (K : PySem.W.Frag) : TS :=
  (tIfS (tTest (tOp (rEqA K) (tOp (rIx K) (tOp (rIx K) (tVar 0) (tVar 2)) (tC (V.int 0))) (tC (V.str "write"))))
    (tRet (tVar 2)) tNext)

def t_write_of (K : PySem.W.Frag) : TS :=
  (tSeq (tFor (iSeq K (tCall spOpsOf [] E0 (tCons (tVar 0) (tCons (tVar 1) tNil)))) (gName 2)
    (t_write_of_1 K))
    (tRet (tC V.non)))

def t_first_end (K : PySem.W.Frag) : TS :=
  (tSeq (tDrop (tCall spDemand [] E0 (tCons (tVar 0) (tCons (tVar 1) tNil))))
    (tRet (tOp (rIx K) (tDGet (tCall spSpans [] E0 (tCons (tVar 0) tNil)) (tVar 1)) (tC (V.int 0)))))

def t_last_begin (K : PySem.W.Frag) : TS :=
  (tSeq (tDrop (tCall spDemand [] E0 (tCons (tVar 0) (tCons (tVar 1) tNil))))
    (tRet (tOp (rIx K) (tDGet (tCall spSpans [] E0 (tCons (tVar 0) tNil)) (tVar 1)) (tC (V.int 1)))))

theorem w_never_of {D : Ends} {σ : LB.St} {H : Hp} (h : False) : tNever D σ H := h.elim
theorem pure_values_of {K : PySem.W.Frag} {vs : List V} {H : Hp} {Q : VK} {E : XK} (h : spValues vs H Q E) : t_values_of K { nx := fun _ H' => Q .non H', rt := Q } (start ["log", "operation"] vs) H := by
  obtain ⟨t, ops, rfl, lg, few, q⟩ := h
  show t_values_of K _ [some (.ref t), none] H
  unfold t_values_of
  walk_at "ws_9"
  obtain ⟨xs, hx, hl, hi⟩ := id lg
  refine w_var (by with_unfolding_all rfl) ⟨t, xs, ops.map (·.v), rfl, .inl (.inl hx), by omega, fun H2 k => .inl (.inl (k.tup _ _ hx)), ?_, by rw [List.length_map, hl], ?_⟩
  · intro j x hj
    have lj : j < ops.length := by
      rw [← hl]
      by_cases z : j < xs.length
      · exact z
      · rw [List.getElem?_eq_none (by omega)] at hj; cases hj
    obtain ⟨u, e1, e2⟩ := hi j _ (List.getElem?_eq_getElem lj)
    rw [hj] at e1
    cases e1
    refine ⟨ops[j].v, by rw [List.getElem?_map, List.getElem?_eq_getElem lj]; rfl, fun H2 Q2 k q2 => ?_⟩
    have hu := k.tup _ _ e2
    exact w_op (w_var (by with_unfolding_all rfl) (w_c (o_ixt (n := 1) hu rfl q2)))
  · intro ms p H2 asc mem nw
    have e : ms = vals ops := asc_eq asc (vals_asc ops) fun k => by rw [mem, vals_mem]
    subst e
    walk_at "ws_9"
    refine o_tupof nw.at_ fun p2 H3 n3 => ?_
    refine q p2 H3 (nw.keep.trans n3.keep) ?_ n3.at_
    cases z : H p2 with
    | none => rfl
    | some o => have := nw.keep.all _ _ id z; rw [n3.no] at this; cases this
theorem pure_demand_value {K : PySem.W.Frag} {vs : List V} {H : Hp} {Q : VK} {E : XK} (h : spDemand vs H Q E) : t_demand_value K { nx := fun _ H' => Q .non H', rt := Q } (start ["log", "value"] vs) H := by
  obtain ⟨t, ops, v, rfl, lg, few, hv, q⟩ := h
  show t_demand_value K _ [some (.ref t), some (.int v)] H
  unfold t_demand_value
  walk_at "ws_9"
  refine ⟨_, .int v, NoS, rfl, .int v, ?_⟩
  walk_at "ws_9"
  refine w_iteF rfl ?_
  walk_at "ws_9"
  refine ⟨t, ops, rfl, lg, few, fun p H' k _ hp => ?_⟩
  refine o_niIntsT hp ?_
  walk_at "ws_9"
  refine w_iteF (by simp [hv]) ?_
  walk_at "ws_9"
  exact q H' k

theorem pure_ended_first {K : PySem.W.Frag} {vs : List V} {H : Hp} {Q : VK} {E : XK} (h : spEnded vs H Q E) : t_ended_first K { nx := fun _ H' => Q .non H', rt := Q } (start ["log", "found", "index", "operation", "value"] vs) H := by
  obtain ⟨t, ops, rfl, lg, few, q⟩ := h
  show t_ended_first K _ [some (.ref t), none, none, none, none] H
  unfold t_ended_first
  walk_at "ws_9"
  refine w_dnew fun d H1 n1 => ?_
  walk_at "ws_9"
  obtain ⟨xs, hx, hl, hi⟩ := id lg
  refine w_forEnT (xs := xs) (by with_unfolding_all rfl) (fun n σ H' => ∃ x2 x3 x4, σ = [some (.ref t), some (.ref d), x2, x3, x4] ∧ Keep NoS H H' ∧ H' d = some (.dK (mkD (keysN (ops.take n)) (bstF kE ops n))))
    ⟨_, _, _, rfl, n1.keep, n1.at_⟩ (fun n σ H' _ h => by obtain ⟨_, _, _, _, k, _⟩ := h; exact k.tup _ _ hx) ?_ ?_
  · rintro n x σ H2 H3 T hn ⟨x2, x3, x4, rfl, k2, hd⟩ nw
    have ln : n < ops.length := by
      rw [← hl]
      by_cases z : n < xs.length
      · exact z
      · rw [List.getElem?_eq_none (by omega)] at hn; cases hn
    have ho : ops[n]? = some ops[n] := List.getElem?_eq_getElem ln
    obtain ⟨u, e1, e2⟩ := hi n _ ho
    rw [hn] at e1
    cases e1
    refine w_gt2 nw.at_ ?_
    have k3 := k2.trans nw.keep
    have hu := k3.tup _ _ e2
    have hd3 := nw.get hd
    have kl : (keysN (ops.take n)).length ≤ 1000 := by
      have := (keysN_facts (ops.take n)).2.2
      rw [List.length_take] at this
      omega
    unfold t_ended_first_1
    walk_at "ws_9"
    refine w_dni ?_
    walk_at "ws_9"
    refine o_dni hd3 ?_
    walk_at "ws_9"
    refine w_iteb (fun c => ?_) (fun c => ?_)
    · have hv : ops[n].v ∉ keysN (ops.take n) := by simpa using c
      refine w_iteT rfl ?_
      refine w_dput ?_
      walk_at "ws_9"
      refine o_dput hd3 kl ?_
      rw [grow_new ho hv]
      exact ⟨_, _, _, rfl, k3.putO (o := .lst []) n1.no, upd_same⟩
    · have hv : ops[n].v ∈ keysN (ops.take n) := by simpa using c
      obtain ⟨j, qo, hj, hq, g1, g2⟩ := grow_old (key := kE) ho hv
      obtain ⟨ys, w, f1, f2, f3⟩ := lg.get hq
      walk_at "ws_9"
      refine w_dget ?_
      walk_at "ws_9"
      refine o_dget hd3 hv ?_
      have ej : bstF kE ops n ops[n].v = .int (j : Nat) := by
        simp only [bstF, hj, Option.getD_some]
      rw [ej]
      refine o_ixt (k3.tup _ _ f1) f2 ?_
      walk_at "ws_9"
      refine o_ixt (n := 3) (k3.tup _ _ f3) rfl ?_
      walk_at "ws_9"
      refine w_iteb (fun c2 => ?_) (fun c2 => ?_)
      · refine w_dput ?_
        walk_at "ws_9"
        refine o_dput hd3 kl ?_
        rw [g1 (by have := of_decide_eq_true c2; simp only [kE, kB]; omega)]
        exact ⟨_, _, _, rfl, k3.putO (o := .lst []) n1.no, upd_same⟩
      · refine ⟨_, _, _, rfl, k3, ?_⟩
        rw [← g2 (by have := of_decide_eq_false c2; simp only [kE, kB]; omega)]
        exact hd3
  · rintro σ H2 ⟨x2, x3, x4, rfl, k2, hd⟩
    rw [hl, List.take_length] at hd
    walk_at "ws_9"
    exact q d H2 k2 n1.no hd

theorem pure_begun_last {K : PySem.W.Frag} {vs : List V} {H : Hp} {Q : VK} {E : XK} (h : spBegun vs H Q E) : t_begun_last K { nx := fun _ H' => Q .non H', rt := Q } (start ["log", "found", "index", "operation", "value"] vs) H := by
  obtain ⟨t, ops, rfl, lg, few, q⟩ := h
  show t_begun_last K _ [some (.ref t), none, none, none, none] H
  unfold t_begun_last
  walk_at "ws_9"
  refine w_dnew fun d H1 n1 => ?_
  walk_at "ws_9"
  obtain ⟨xs, hx, hl, hi⟩ := id lg
  refine w_forEnT (xs := xs) (by with_unfolding_all rfl) (fun n σ H' => ∃ x2 x3 x4, σ = [some (.ref t), some (.ref d), x2, x3, x4] ∧ Keep NoS H H' ∧ H' d = some (.dK (mkD (keysN (ops.take n)) (bstF kB ops n))))
    ⟨_, _, _, rfl, n1.keep, n1.at_⟩ (fun n σ H' _ h => by obtain ⟨_, _, _, _, k, _⟩ := h; exact k.tup _ _ hx) ?_ ?_
  · rintro n x σ H2 H3 T hn ⟨x2, x3, x4, rfl, k2, hd⟩ nw
    have ln : n < ops.length := by
      rw [← hl]
      by_cases z : n < xs.length
      · exact z
      · rw [List.getElem?_eq_none (by omega)] at hn; cases hn
    have ho : ops[n]? = some ops[n] := List.getElem?_eq_getElem ln
    obtain ⟨u, e1, e2⟩ := hi n _ ho
    rw [hn] at e1
    cases e1
    refine w_gt2 nw.at_ ?_
    have k3 := k2.trans nw.keep
    have hu := k3.tup _ _ e2
    have hd3 := nw.get hd
    have kl : (keysN (ops.take n)).length ≤ 1000 := by
      have := (keysN_facts (ops.take n)).2.2
      rw [List.length_take] at this
      omega
    unfold t_begun_last_1
    walk_at "ws_9"
    refine w_dni ?_
    walk_at "ws_9"
    refine o_dni hd3 ?_
    walk_at "ws_9"
    refine w_iteb (fun c => ?_) (fun c => ?_)
    · have hv : ops[n].v ∉ keysN (ops.take n) := by simpa using c
      refine w_iteT rfl ?_
      refine w_dput ?_
      walk_at "ws_9"
      refine o_dput hd3 kl ?_
      rw [grow_new ho hv]
      exact ⟨_, _, _, rfl, k3.putO (o := .lst []) n1.no, upd_same⟩
    · have hv : ops[n].v ∈ keysN (ops.take n) := by simpa using c
      obtain ⟨j, qo, hj, hq, g1, g2⟩ := grow_old (key := kB) ho hv
      obtain ⟨ys, w, f1, f2, f3⟩ := lg.get hq
      walk_at "ws_9"
      refine w_dget ?_
      walk_at "ws_9"
      refine o_dget hd3 hv ?_
      have ej : bstF kB ops n ops[n].v = .int (j : Nat) := by
        simp only [bstF, hj, Option.getD_some]
      rw [ej]
      refine o_ixt (k3.tup _ _ f1) f2 ?_
      walk_at "ws_9"
      refine o_ixt (n := 2) (k3.tup _ _ f3) rfl ?_
      walk_at "ws_9"
      refine w_iteb (fun c2 => ?_) (fun c2 => ?_)
      · refine w_dput ?_
        walk_at "ws_9"
        refine o_dput hd3 kl ?_
        rw [g1 (by have := of_decide_eq_true c2; simp only [kE, kB]; omega)]
        exact ⟨_, _, _, rfl, k3.putO (o := .lst []) n1.no, upd_same⟩
      · refine ⟨_, _, _, rfl, k3, ?_⟩
        rw [← g2 (by have := of_decide_eq_false c2; simp only [kE, kB]; omega)]
        exact hd3
  · rintro σ H2 ⟨x2, x3, x4, rfl, k2, hd⟩
    rw [hl, List.take_length] at hd
    walk_at "ws_9"
    exact q d H2 k2 n1.no hd

theorem Keep.unlock {H H' : Hp} {d : Addr} {kvs : List (Key × V)} (k : Keep (At d) H H') (e : H d = some (.dK kvs)) : Keep NoS H (upd H' d (.dK kvs)) := by
  refine ⟨fun b o _ h => ?_, fun b xs h => ?_⟩
  · by_cases z : b = d
    · rw [z, e] at h; rw [z, upd_same]; exact h
    · rw [upd_ne z]; exact k.all b o z h
  · have z : b ≠ d := fun z => by rw [z, e] at h; cases h
    rw [upd_ne z]; exact k.tup b xs h
theorem Keep.lock {H : Hp} {d : Addr} {o : Obj} {kvs : List (Key × V)} (e : H d = some (.dK kvs)) : Keep (At d) H (upd H d (.frz o (.dK kvs))) :=
  ⟨fun b _ n h => by rw [upd_ne n]; exact h, fun b _ h => by rw [upd_ne (fun z => by rw [z, e] at h; cases h)]; exact h⟩
theorem free_of {S : Addr → Prop} {H H' : Hp} {p : Addr} (k : Keep S H H') (n : ¬ S p) (h : H' p = none) : H p = none := by
  cases z : H p with
  | none => rfl
  | some o => rw [k.all p o n z] at h; cases h
theorem pure_spans_of {K : PySem.W.Frag} {vs : List V} {H : Hp} {Q : VK} {E : XK} (h : spSpans vs H Q E) : t_spans_of K { nx := fun _ H' => Q .non H', rt := Q } (start ["log", "ended", "begun", "spans", "value"] vs) H := by
  obtain ⟨t, ops, rfl, lg, few, q⟩ := h
  show t_spans_of K _ [some (.ref t), none, none, none, none] H
  unfold t_spans_of
  walk_at "ws_9"
  refine ⟨t, ops, rfl, lg, few, fun d1 H1 k1 z1 e1 => ?_⟩
  walk_at "ws_9"
  refine ⟨t, ops, rfl, lg.keep k1, few, fun d2 H2 k2 z2 e2 => ?_⟩
  walk_at "ws_9"
  have kk := keysN_facts ops
  have ed1 := k2.all _ _ id e1
  have lg2 := (lg.keep k1).keep k2
  have ne21 : d2 ≠ d1 := fun z => by rw [z] at z2; rw [e1] at z2; cases z2
  refine ⟨d1, _, ed1, trivial, fun od => ?_⟩
  have kL : Keep (At d1) H2 (upd H2 d1 (.frz od (.dK (mkD (keysN ops) (bstF kE ops ops.length))))) := Keep.lock ed1
  refine ⟨.ref d1, by with_unfolding_all rfl, d1, od, rfl, .inl ⟨_, upd_same, fun D hD => ?_⟩⟩
  have zD : H2 D = none := by
    by_cases z : D = d1
    · rw [z, upd_same] at hD; cases hD
    · rwa [upd_ne z] at hD
  have nD : D ≠ d1 := fun z => by rw [z, upd_same] at hD; cases hD
  refine dc_it walk_keys (fun n H' => Keep (At d1) H2 H' ∧ H' d1 = some (.frz od (.dK (mkD (keysN ops) (bstF kE ops ops.length)))) ∧ ∃ f : Int → V, H' D = some (.dK (mkD ((keysN ops).take n) f)) ∧ ∀ v ∈ (keysN ops).take n, ∃ u, f v = .ref u ∧ H' u = some (.tup [.int (firstE ops v), .int (lastB ops v)]))
    ⟨kL.putO (o := .lst []) zD, by rw [upd_ne (Ne.symm nD)]; exact upd_same, fun _ => .non, upd_same, fun v hv => by simp at hv⟩ (fun n H' _ h => h.2.1) ?_ ?_
  · rintro n x H3 H4 hn ⟨k3, f1, f, hf, hv⟩ ⟨rfl, k, y, hk, rfl⟩
    obtain ⟨v, ev, rfl, rfl⟩ := mkD_at hk
    refine ⟨rfl, ?_⟩
    simp only [tYes, if_true]
    walk_at "ws_9"
    have hvk : v ∈ keysN ops := List.mem_of_getElem? ev
    have hvv := keysN_vals.mp hvk
    obtain ⟨qe, be⟩ := bE_best hvv
    obtain ⟨qb, bb⟩ := bB_best hvv
    have lg3 := lg2.keep k3
    obtain ⟨xs, u1, a1, a2, a3⟩ := lg3.get be.at_
    obtain ⟨xs', u2, b1, b2, b3⟩ := lg3.get bb.at_
    refine w_dget ?_
    walk_at "ws_9"
    refine o_dgetR (.inr ⟨_, f1⟩) hvk ?_
    refine o_ixt (n := bE ops v) a1 a2 ?_
    walk_at "ws_9"
    refine w_dget ?_
    walk_at "ws_9"
    refine o_dget (k3.all _ _ ne21 e2) hvk ?_
    refine o_ixt (n := bB ops v) b1 b2 ?_
    walk_at "ws_9"
    refine k_tup (by simp; decide) fun u H5 n5 => ?_
    have hD5 := n5.get hf
    have few2 : (((keysN ops).take n)).length ≤ 1000 := by rw [List.length_take]; omega
    refine ⟨_, .inl v, rfl, hD5, by rw [mkD_len]; exact Nat.lt_of_le_of_lt few2 (by decide), (k3.trans n5.keep).putO (o := .lst []) zD, by rw [upd_ne (Ne.symm nD)]; exact n5.get f1, fun w => if w = v then .ref u else f w, ?_, ?_⟩
    · have nv : v ∉ (keysN ops).take n := fun z => by
        obtain ⟨m, hm, em⟩ := List.mem_iff_getElem.mp z
        rw [List.length_take] at hm
        rw [List.getElem_take] at em
        obtain ⟨hn', en⟩ := List.getElem?_eq_some_iff.mp ev
        have := (List.getElem_inj kk.2.1).mp (em.trans en.symm)
        omega
      rw [upd_same, mkD_put, if_neg nv, List.take_add_one, ev]
      rfl
    · intro w hw
      rw [List.take_add_one, ev] at hw
      have uD : u ≠ D := fun z => by have := n5.no; rw [z, hf] at this; cases this
      by_cases z : w = v
      · subst z
        refine ⟨u, if_pos rfl, ?_⟩
        rw [upd_ne uD, n5.at_, firstE_is be, lastB_is bb]
      · simp only [Option.toList_some, List.mem_append, List.mem_singleton, z, or_false] at hw
        obtain ⟨u0, c1, c2⟩ := hv w hw
        refine ⟨u0, (if_neg z).trans c1, ?_⟩
        rw [upd_ne (fun y => by rw [y, hf] at c2; cases c2)]
        exact n5.get c2
  · rintro H3 ⟨k3, f1, f, hf, hv⟩
    rw [mkD_len, List.take_length] at hf hv
    refine ⟨f1, ?_⟩
    have k4 := k3.unlock ed1
    have hf4 : (upd H3 d1 (.dK (mkD (keysN ops) (bstF kE ops ops.length)))) D = some (.dK (mkD (keysN ops) f)) := by rw [upd_ne nD]; exact hf
    have hv4 : ∀ v ∈ keysN ops, ∃ u, f v = .ref u ∧ (upd H3 d1 (.dK (mkD (keysN ops) (bstF kE ops ops.length)))) u = some (.tup [.int (firstE ops v), .int (lastB ops v)]) := fun v h => by
      obtain ⟨u, c1, c2⟩ := hv v h
      exact ⟨u, c1, by rw [upd_ne (fun y => by rw [y, f1] at c2; cases c2)]; exact c2⟩
    generalize (upd H3 d1 (.dK (mkD (keysN ops) (bstF kE ops ops.length)))) = H4 at k4 hf4 hv4
    walk_at "ws_9"
    refine w_din ?_
    walk_at "ws_9"
    refine o_din hf4 ?_
    walk_at "ws_9"
    have zDH : H D = none := free_of (k1.trans k2) id zD
    refine w_iteb (fun c => ?_) (fun c => ?_)
    · have h0 : (0 : Int) ∈ keysN ops := by simpa using c
      obtain ⟨u0, c1, c2⟩ := hv4 0 h0
      refine w_dput ?_
      walk_at "ws_9"
      refine w_dget ?_
      walk_at "ws_9"
      refine o_dget hf4 h0 ?_
      rw [c1]
      walk_at "ws_9"
      refine k_tup (by simp; decide) fun u H5 n5 => ?_
      have hD5 := n5.get hf4
      walk_at "ws_9"
      refine o_dput hD5 (by omega) ?_
      walk_at "ws_9"
      refine q D _ (((k1.trans k2).trans (k4.trans n5.keep)).putO (o := .lst []) zDH) zDH ⟨fun w => if w = 0 then .ref u else f w, .inl (by rw [upd_same, mkD_put, if_pos h0]), fun w hw => ?_⟩
      have uD : u ≠ D := fun z => by have := n5.no; rw [z, hf4] at this; cases this
      by_cases z : w = 0
      · subst z
        refine ⟨u, if_pos rfl, ?_⟩
        rw [upd_ne uD, n5.at_]
        rfl
      · obtain ⟨u1, g1, g2⟩ := hv4 w hw
        refine ⟨u1, (if_neg z).trans g1, ?_⟩
        rw [upd_ne (fun y => by rw [y, hf4] at g2; cases g2), n5.get g2]
        simp only [spanT, spanF, z, if_false]
    · have h0 : (0 : Int) ∉ keysN ops := by simpa using c
      walk_at "ws_9"
      refine q D _ ((k1.trans k2).trans k4) zDH ⟨f, .inl hf4, fun w hw => ?_⟩
      obtain ⟨u1, g1, g2⟩ := hv4 w hw
      have z : ¬ w = 0 := fun z => h0 (z ▸ hw)
      exact ⟨u1, g1, by rw [g2]; simp only [spanT, spanF, z, if_false]⟩
theorem pure_is_span_before {K : PySem.W.Frag} {vs : List V} {H : Hp} {Q : VK} {E : XK} (h : spSpanBefore vs H Q E) : t_is_span_before K { nx := fun _ H' => Q .non H', rt := Q } (start ["one", "other", "tolerance"] vs) H := by
  obtain ⟨a, b, f1, f2, l1, l2, tol, rfl, ha, hb, hf, q⟩ := h
  show t_is_span_before K _ [some (.ref a), some (.ref b), some (.int tol)] H
  unfold t_is_span_before
  walk_at "ws_9"
  rcases hf with rfl | ⟨i, rfl⟩
  · refine .inl ⟨rfl, ?_⟩
    walk_at "ws_9"
    refine w_iteT rfl ?_
    exact q
  · refine .inl ⟨rfl, ?_⟩
    walk_at "ws_9"
    refine w_iteF (by simp) ?_
    walk_at "ws_9"
    exact q
theorem pure_is_before {K : PySem.W.Frag} {vs : List V} {H : Hp} {Q : VK} {E : XK} (h : spIsBefore vs H Q E) : t_is_before K { nx := fun _ H' => Q .non H', rt := Q } (start ["log", "tolerance", "one", "other", "spans"] vs) H := by
  obtain ⟨t, ops, tol, u, v, rfl, lg, few, hu, hv, q⟩ := h
  show t_is_before K _ [some (.ref t), some (.int tol), some (.int u), some (.int v), none] H
  unfold t_is_before
  walk_at "ws_9"
  refine ⟨t, ops, u, rfl, lg, few, hu, fun H1 k1 => ?_⟩
  walk_at "ws_9"
  refine ⟨t, ops, v, rfl, lg.keep k1, few, hv, fun H2 k2 => ?_⟩
  walk_at "ws_9"
  refine ⟨t, ops, rfl, (lg.keep k1).keep k2, few, fun d H3 k3 _ sp => ?_⟩
  walk_at "ws_9"
  have kk := (k1.trans k2).trans k3
  have e0 : (!decide (V.int u = V.int v)) = !decide (u = v) := by simp
  rw [e0]
  refine w_iteb (fun c => ?_) (fun c => ?_)
  · have ne : ¬ u = v := by simpa using c
    obtain ⟨t1, g1, h1⟩ := sp.get hu
    obtain ⟨t2, g2, h2⟩ := sp.get hv
    walk_at "ws_9"
    refine w_dget ?_
    walk_at "ws_9"
    refine o_dgetS g1 ?_
    walk_at "ws_9"
    refine w_dget ?_
    walk_at "ws_9"
    refine o_dgetS g2 ?_
    walk_at "ws_9"
    refine ⟨t1, t2, _, _, _, _, tol, rfl, h1, h2, spanF_is, ?_⟩
    have q1 := q H3 kk
    unfold isBef at q1
    rw [if_neg ne] at q1
    exact q1
  · have e : u = v := by simpa using c
    have q1 := q H3 kk
    unfold isBef at q1
    rw [if_pos e] at q1
    exact q1
theorem pure_is_index {K : PySem.W.Frag} {vs : List V} {H : Hp} {Q : VK} {E : XK} (h : spIsIndex vs H Q E) : t_is_index K { nx := fun _ H' => Q .non H', rt := Q } (start ["log", "value"] vs) H := by
  obtain ⟨t, xs, x, d, S, rfl, ht, hd, q⟩ := h
  show t_is_index K _ [some (.ref t), some x] H
  unfold t_is_index
  walk_at "ws_9"
  exact ⟨x, d, S, _, _, rfl, hd, q⟩
theorem pure_surely_before {K : PySem.W.Frag} {vs : List V} {H : Hp} {Q : VK} {E : XK} (h : spSurely vs H Q E) : t_surely_before K { nx := fun _ H' => Q .non H', rt := Q } (start ["log", "tolerance", "one", "other", "index"] vs) H := by
  obtain ⟨t, ops, tol, i, j, rfl, lg, hi, hj, q⟩ := h
  show t_surely_before K _ [some (.ref t), some (.int tol), some (.int (i : Nat)), some (.int (j : Nat)), none] H
  unfold t_surely_before
  walk_at "ws_9"
  refine k_tup (by simp; decide) fun T H1 n1 => ?_
  obtain ⟨xs, hx, hl, _⟩ := lg.keep (S := NoS) n1.keep
  refine k_Ft n1.at_ (fun _ σ H' => ∃ x4, σ = [some (.ref t), some (.int tol), some (.int (i : Nat)), some (.int (j : Nat)), x4] ∧ H' = H1) ⟨_, rfl, rfl⟩ (fun _ _ _ _ h => by obtain ⟨_, _, rfl⟩ := h; exact n1.at_) ?_ ?_
  · rintro n x σ H2 hn ⟨x4, rfl, rfl⟩
    walk_at "ws_9"
    unfold t_surely_before_1
    have hxi : ∃ m : Nat, x = .int (m : Nat) ∧ m < xs.length := by
      match n, hn with
      | 0, hn => exact ⟨i, (Option.some.inj hn).symm, by omega⟩
      | 1, hn => exact ⟨j, (Option.some.inj hn).symm, by omega⟩
    obtain ⟨m, rfl, hm⟩ := hxi
    walk_at "ws_9"
    refine ⟨t, xs, _, .int (m : Nat), NoS, rfl, hx, .int _, ?_⟩
    walk_at "ws_9"
    refine w_iteF (by simp [within]; omega) ?_
    walk_at "ws_9"
    exact ⟨_, rfl, rfl⟩
  · rintro σ H2 ⟨x4, rfl, rfl⟩
    have lg1 := lg.keep (S := NoS) n1.keep
    obtain ⟨_, u1, a1, a2, a3⟩ := lg1.get (List.getElem?_eq_getElem hi)
    obtain ⟨_, u2, b1, b2, b3⟩ := lg1.get (List.getElem?_eq_getElem hj)
    walk_at "ws_9"
    refine o_ixt a1 a2 ?_
    walk_at "ws_9"
    refine o_ixt b1 b2 ?_
    walk_at "ws_9"
    have q1 := q H2 n1.keep
    unfold sureB at q1
    rw [List.getElem?_eq_getElem hi, List.getElem?_eq_getElem hj] at q1
    exact q1
theorem pure_operations_of {K : PySem.W.Frag} {vs : List V} {H : Hp} {Q : VK} {E : XK} (h : spOpsOf vs H Q E) : t_operations_of K { nx := fun _ H' => Q .non H', rt := Q } (start ["log", "value", "index", "operation"] vs) H := by
  obtain ⟨t, ops, v, rfl, lg, few, hv, q⟩ := h
  show t_operations_of K _ [some (.ref t), some (.int v), none, none] H
  unfold t_operations_of
  walk_at "ws_9"
  refine ⟨t, ops, v, rfl, lg, few, hv, fun H1 k1 => ?_⟩
  walk_at "ws_9"
  refine lc_idx (t := t) (v := v) (by with_unfolding_all rfl) (by with_unfolding_all rfl) (lg.keep k1) (by decide) (by decide) (by decide) (by simp) (by simp) few fun p H2 k2 zp hp => ?_
  walk_at "ws_9"
  refine o_tupof hp fun p2 H3 n3 => ?_
  exact q p2 H3 ((k1.trans k2).trans n3.keep) (free_of (k1.trans k2) id n3.no) n3.at_
theorem find_at {p : Nat → Bool} : ∀ {l : List Nat} {i n : Nat}, l[i]? = some n → p n = true → (∀ (m k : Nat), m < i → l[m]? = some k → p k = false) → l.find? p = some n
  | [], i, n, h, _, _ => by simp at h
  | a :: l, 0, n, h, hp, _ => by
    have h : a = n := Option.some.inj h
    subst h
    rw [List.find?_cons, hp]
  | a :: l, i + 1, n, h, hp, no => by
    rw [List.find?_cons, no 0 a (by omega) rfl]
    exact find_at (i := i) (by simpa using h) hp fun m k hm e => no (m + 1) k (by omega) (by simpa using e)
theorem pure_write_of {K : PySem.W.Frag} {vs : List V} {H : Hp} {Q : VK} {E : XK} (h : spWriteOf vs H Q E) : t_write_of K { nx := fun _ H' => Q .non H', rt := Q } (start ["log", "value", "index"] vs) H := by
  obtain ⟨t, ops, v, rfl, lg, few, hv, q⟩ := h
  show t_write_of K _ [some (.ref t), some (.int v), none] H
  unfold t_write_of
  walk_at "ws_9"
  refine w_forSt ?_
  walk_at "ws_9"
  refine ⟨t, ops, v, rfl, lg, few, hv, fun p H1 k1 zp hp => ?_⟩
  have lg1 := lg.keep k1
  refine k_Ft hp (fun n σ H' => (∃ x2, σ = [some (.ref t), some (.int v), x2]) ∧ H' = H1 ∧ ∀ (m k : Nat), m < n → (idxOf ops v)[m]? = some k → (match ops[k]? with | some o => o.w | none => false) = false) ⟨⟨_, rfl⟩, rfl, fun m k hm => by omega⟩ (fun _ _ _ _ h => by obtain ⟨_, rfl, _⟩ := h; exact hp) ?_ ?_
  · rintro n x σ H2 hn ⟨⟨x2, rfl⟩, rfl, no⟩
    rw [List.getElem?_map] at hn
    obtain ⟨k, hk, rfl⟩ := Option.map_eq_some_iff.mp hn
    obtain ⟨o, ho, ov⟩ := idx_mem.mp (List.mem_of_getElem? hk)
    obtain ⟨xs, u, a1, a2, a3⟩ := lg1.get ho
    walk_at "ws_9"
    unfold t_write_of_1
    walk_at "ws_9"
    refine o_ixt a1 a2 ?_
    walk_at "ws_9"
    rw [kind_eq]
    refine w_iteb (fun c => ?_) (fun c => ?_)
    · walk_at "ws_9"
      have e : wrIx ops v = some k := find_at hk (by rw [ho]; exact c) no
      have q1 := q H2 k1
      rw [e] at q1
      exact q1
    · walk_at "ws_9"
      refine ⟨⟨_, rfl⟩, rfl, fun m k2 hm e => ?_⟩
      by_cases z : m < n
      · exact no m k2 z e
      · have : m = n := by omega
        subst this
        rw [hk] at e
        cases e
        rw [ho]
        exact c
  · rintro σ H2 ⟨⟨x2, rfl⟩, rfl, no⟩
    walk_at "ws_9"
    have e : wrIx ops v = none := by
      unfold wrIx
      rw [List.find?_eq_none]
      intro k hk
      obtain ⟨m, hm, em⟩ := List.mem_iff_getElem.mp hk
      have e2 := no m k (by rw [List.length_map]; exact hm) (by rw [List.getElem?_eq_getElem hm, em])
      exact fun h => Bool.noConfusion (e2.symm.trans h)
    have q1 := q H2 k1
    rw [e] at q1
    exact q1
theorem pure_first_end {K : PySem.W.Frag} {vs : List V} {H : Hp} {Q : VK} {E : XK} (h : spFirstEnd vs H Q E) : t_first_end K { nx := fun _ H' => Q .non H', rt := Q } (start ["log", "value"] vs) H := by
  obtain ⟨t, ops, v, rfl, lg, few, hv, q⟩ := h
  show t_first_end K _ [some (.ref t), some (.int v)] H
  unfold t_first_end
  walk_at "ws_9"
  refine ⟨t, ops, v, rfl, lg, few, hv, fun H1 k1 => ?_⟩
  walk_at "ws_9"
  refine w_dget ?_
  walk_at "ws_9"
  refine ⟨t, ops, rfl, lg.keep k1, few, fun d H2 k2 _ sp => ?_⟩
  obtain ⟨t1, g1, h1⟩ := sp.get hv
  walk_at "ws_9"
  refine o_dgetS g1 ?_
  walk_at "ws_9"
  exact q H2 (k1.trans k2)
theorem pure_last_begin {K : PySem.W.Frag} {vs : List V} {H : Hp} {Q : VK} {E : XK} (h : spLastBegin vs H Q E) : t_last_begin K { nx := fun _ H' => Q .non H', rt := Q } (start ["log", "value"] vs) H := by
  obtain ⟨t, ops, v, rfl, lg, few, hv, q⟩ := h
  show t_last_begin K _ [some (.ref t), some (.int v)] H
  unfold t_last_begin
  walk_at "ws_9"
  refine ⟨t, ops, v, rfl, lg, few, hv, fun H1 k1 => ?_⟩
  walk_at "ws_9"
  refine w_dget ?_
  walk_at "ws_9"
  refine ⟨t, ops, rfl, lg.keep k1, few, fun d H2 k2 _ sp => ?_⟩
  obtain ⟨t1, g1, h1⟩ := sp.get hv
  walk_at "ws_9"
  refine o_dgetS g1 ?_
  walk_at "ws_9"
  exact q H2 (k1.trans k2)
end LB

open PySem PySem.Spec PyProof.Rows L2 LB
/-! the tactic: one step of a reading; many -/
local macro_rules | `(tactic| walk_at "w1_10") => `(tactic| first
  | with_reducible refine w_seq ?_ | with_reducible refine w_asg ?_ | with_reducible refine w_drop ?_ | with_reducible refine w_ret ?_ | with_reducible refine w_next ?_
  | with_reducible refine w_ifs ?_ | with_reducible refine w_forR1 ?_ | with_reducible refine w_forR2 ?_ | with_reducible refine w_forL ?_ | with_reducible refine w_forT ?_ | with_reducible refine w_name ?_ | with_reducible refine w_sub ?_ | with_reducible refine w_par ?_
  | with_reducible refine w_var (by with_unfolding_all rfl) ?_ | with_reducible refine w_c ?_ | with_reducible refine w_op ?_ | with_reducible refine w_un ?_
  | with_reducible refine w_test ?_ | with_reducible refine w_tb ?_ | with_reducible refine w_nil ?_ | with_reducible refine w_cons ?_ | with_reducible refine w_cb ?_ | with_reducible refine w_call ?_
  | with_reducible refine w_not ?_ | with_reducible refine w_and ?_ | with_reducible refine w_or ?_ | with_reducible refine w_andV ?_ | with_reducible refine w_orV ?_ | with_reducible refine w_notV ?_
  | with_reducible refine w_ife ?_ | with_reducible refine w_chain ?_ | with_reducible refine w_bm ?_ | with_reducible refine w_sl ?_ | with_reducible refine w_part ?_ | with_reducible refine w_nopart ?_
  | with_reducible refine w_exb ?_ | with_reducible refine w_exi ?_ | with_reducible refine w_ex2 ?_ | with_reducible refine w_ex3 ?_ | with_reducible refine w_lstrg ?_ | with_reducible refine w_rg2 ?_ | with_reducible refine w_rg1 ?_ | with_reducible refine w_exij ?_ | with_reducible refine w_tup ?_ | with_reducible refine w_lst ?_
  | with_reducible refine o_add ?_ | with_reducible refine o_sub ?_ | with_reducible refine o_neg ?_ | with_reducible refine o_lt ?_ | with_reducible refine o_le ?_ | with_reducible refine o_gt ?_ | with_reducible refine o_ge ?_
  | with_reducible refine o_ixL (by assumption) (by decide) (by with_unfolding_all rfl) ?_ | with_reducible refine o_ixT (by assumption) (by decide) (by with_unfolding_all rfl) ?_
  | with_reducible refine o_mod (by first | decide | omega) ?_ | with_reducible refine o_mul (by first | decide | omega) ?_ | with_reducible refine o_fdv (by first | decide | omega) (by first | decide | omega) ?_ | with_reducible refine o_setL (by assumption) (by decide) (by simp) ?_
  | with_reducible refine oo_addi ?_ | with_reducible refine oo_sub ?_ | with_reducible refine oo_neg ?_ | with_reducible refine w_rev ?_ | with_reducible refine w_m0 ?_
  | with_reducible refine w_par3 ?_ | with_reducible refine w_tyl (by assumption) ?_
  | with_reducible refine o_abs ?_ | with_reducible refine o_eqs (by with_unfolding_all rfl) ?_ | with_reducible refine o_nes (by with_unfolding_all rfl) ?_ | with_reducible refine o_max2 ?_ | with_reducible refine o_min2 ?_ | with_reducible refine o_isiX (by assumption) ?_ | with_reducible refine o_lenl (by assumption) ?_ | with_reducible refine o_lent (by assumption) ?_ | with_reducible refine o_int1b ?_)
local macro_rules | `(tactic| walk_at "ws_10") => `(tactic| repeat (first | walk_at "w1_10" | dsimp only [List.set_cons_zero, List.set_cons_succ]))
namespace LB
/-! ### k06: the law's own defs -/
theorem wAll_op : ∀ {ops : List Op}, (∀ o ∈ ops, o.ok) → PyData.weightAll (ops.map Op.dat) ≤ ops.length * 409
  | [], _ => by simp [PyData.weightAll]
  | o :: ops, h => by
    have h1 := (op_nice (h o List.mem_cons_self)).wt
    have h2 := wAll_op (ops := ops) fun p hp => h p (List.mem_cons_of_mem _ hp)
    simp only [List.map_cons, PyData.weightAll, List.length_cons]
    omega
theorem log_nice {ops : List Op} (h : ∀ o ∈ ops, o.ok) (few : ops.length ≤ 200) : Nice 0 2 81800 (.tuple (ops.map Op.dat)) := by
  refine nice_tup (fun d hd => ?_) (fun d hd => ?_) ?_
  · obtain ⟨o, ho, rfl⟩ := List.mem_map.mp hd
    exact (op_nice (h o ho)).ok
  · obtain ⟨o, ho, rfl⟩ := List.mem_map.mp hd
    exact (op_nice (h o ho)).dp
  · have := wAll_op h
    omega
theorem o_reprLog {H : Hp} {Q : VK} {t : Addr} {ops : List Op} (lg : LogAt H t ops) (ok : ∀ o ∈ ops, o.ok) (few : ops.length ≤ 200) (q : Q (.str (PyData.tuple (ops.map Op.dat)).shown) H) : rRepr [.ref t] H Q :=
  o_repr (S := NoS) lg.dd (log_nice ok few) (by omega) (by omega) (by omega) q
theorem o_reprB {H : Hp} {Q : VK} {b : Bool} (q : Q (.str (PyData.bool b).shown) H) : rRepr [.bl b] H Q :=
  o_repr (S := NoS) (n := 0) (k := 0) (w := 0) (.bl b) nice_bl (by omega) (by omega) (by omega) q
def spWorths : Sp := fun vs H Q _ => ∃ (t : Addr) (ops : List Op), vs = [.ref t] ∧ LogAt H t ops ∧ ops.length ≤ 200 ∧ ∀ (p : Addr) (H' : Hp), Keep NoS H H' → H p = none → H' p = some (.lst ((vals ops).map V.int)) → Q (.ref p) H'
theorem spWorths_arity {vs : List V} {H : Hp} {Q : VK} {E : XK} (h : spWorths vs H Q E) : vs.length = 1 := by obtain ⟨_, _, rfl, _⟩ := h; rfl
/-- the law's own first end -/
def fstL (ops : List Op) (v : Int) : Int := if 0 < v then firstE ops v else -1000000000000000000
def EndsAt (H : Hp) (d : Addr) (ops : List Op) : Prop := ∃ f : Int → V, Rd H d (.dK (mkD (vals ops) f)) ∧ ∀ v ∈ vals ops, ∃ t, f v = .ref t ∧ H t = some (.tup [.int (fstL ops v), .int (lastB ops v)])
theorem EndsAt.get {H : Hp} {d : Addr} {ops : List Op} {v : Int} (h : EndsAt H d ops) (hv : v ∈ vals ops) : ∃ t, DGet H d (.int v) (some (.ref t)) ∧ H t = some (.tup [.int (fstL ops v), .int (lastB ops v)]) := by
  obtain ⟨f, h1, h2⟩ := h
  obtain ⟨t, e1, e2⟩ := h2 v hv
  exact ⟨t, .inl ⟨_, .inl v, h1, rfl, by rw [mkD_val, if_pos hv, e1]⟩, e2⟩
theorem EndsAt.keep {S : Addr → Prop} {H H' : Hp} {d : Addr} {ops : List Op} (h : EndsAt H d ops) (k : Keep S H H') (n : ¬ S d) : EndsAt H' d ops := by
  obtain ⟨f, h1, h2⟩ := h
  refine ⟨f, ?_, fun v hv => ?_⟩
  · rcases h1 with h1 | ⟨o, h1⟩
    · exact .inl (k.all _ _ n h1)
    · exact .inr ⟨o, k.all _ _ n h1⟩
  · obtain ⟨t, e1, e2⟩ := h2 v hv
    exact ⟨t, e1, k.tup _ _ e2⟩
def spEndsL : Sp := fun vs H Q _ => ∃ (t : Addr) (ops : List Op), vs = [.ref t] ∧ LogAt H t ops ∧ ops.length ≤ 200 ∧ ∀ (p : Addr) (H' : Hp) (f : Int → V), Keep NoS H H' → H p = none → H' p = some (.dK (mkD (vals ops) f)) → EndsAt H' p ops → Q (.ref p) H'
theorem spEndsL_arity {vs : List V} {H : Hp} {Q : VK} {E : XK} (h : spEndsL vs H Q E) : vs.length = 1 := by obtain ⟨_, _, rfl, _⟩ := h; rfl
def spPairR : Sp := fun vs H Q _ => ∃ (t d : Addr) (ops : List Op) (tol u v : Int), vs = [.ref t, .ref d, .int tol, .int u, .int v] ∧ LogAt H t ops ∧ ops.length ≤ 200 ∧ (∀ o ∈ ops, o.ok) ∧ EndsAt H d ops ∧ 0 ≤ tol ∧ tol ≤ 10000000000000000 ∧ u ∈ vals ops ∧ v ∈ vals ops ∧ ∀ H', Keep NoS H H' → Q (.bl true) H'
theorem spPairR_arity {vs : List V} {H : Hp} {Q : VK} {E : XK} (h : spPairR vs H Q E) : vs.length = 5 := by obtain ⟨_, _, _, _, _, _, rfl, _⟩ := h; rfl
def spLogR : Sp := fun vs H Q _ => ∃ (t : Addr) (ops : List Op) (tol : Int), vs = [.ref t, .int tol] ∧ LogAt H t ops ∧ ops.length ≤ 200 ∧ (∀ o ∈ ops, o.ok) ∧ 0 ≤ tol ∧ tol ≤ 10000000000000000 ∧ ∀ H', Keep NoS H H' → Q (.bl true) H'
theorem spLogR_arity {vs : List V} {H : Hp} {Q : VK} {E : XK} (h : spLogR vs H Q E) : vs.length = 2 := by obtain ⟨_, _, _, rfl, _⟩ := h; rfl

def t__law_worths (K : PySem.W.Frag) : TS :=
  (tRet (tSortL K (tLc (iSeq K (tVar 0)) (gName 1) tYes (tOp (rIx K) (tVar 1) (tC (V.int 1))) [1])))

def t__law_ends_1 (K : PySem.W.Frag) : TS :=
  (tSeq (tAsg (tLc (iSeq K (tVar 0)) (gName 4) (tTest (tOp (rEqA K) (tOp (rIx K) (tVar 4) (tC (V.int 1))) (tVar 2))) (tVar 4) [4]) (gName 3))
    (tSeq (tAsg (tIf (tTest (tOp rGtI (tVar 2) (tC (V.int 0)))) (tCB (rMin K) (tCons (tLc (iSeq K (tVar 3)) (gName 4) tYes (tOp (rIx K) (tVar 4) (tC (V.int 3))) [4]) tNil)) (tUn rNegI (tOp rPowI (tC (V.int 10)) (tC (V.int 18))))) (gName 5))
    (sDPut (tVar 1) (tVar 2) (tTup (tCons (tVar 5) (tCons (tCB (rMax K) (tCons (tLc (iSeq K (tVar 3)) (gName 4) tYes (tOp (rIx K) (tVar 4) (tC (V.int 2))) [4]) tNil)) tNil))))))

def t__law_ends (K : PySem.W.Frag) : TS :=
  (tSeq (tAsg tDNewK (gName 1))
    (tSeq (tFor (iSeq K (tCall spWorths [] E0 (tCons (tVar 0) tNil))) (gName 2)
    (t__law_ends_1 K))
    (tRet (tVar 1))))

def t__law_pair_right (K : PySem.W.Frag) : TS :=
  (tSeq (tAsg (tAndV (tOp (rNeA K) (tVar 3) (tVar 4)) (tOp rLtI (tOp (rAddA K) (tOp (rIx K) (tDGet (tVar 1) (tVar 3)) (tC (V.int 0))) (tVar 2)) (tOp (rIx K) (tDGet (tVar 1) (tVar 4)) (tC (V.int 1))))) (gName 5))
    (tSeq (tIfS (tAnd (tTest (tOp (rEqA K) (tVar 3) (tC (V.int 0)))) (tAnd (tTest (tOp (rNeA K) (tVar 4) (tC (V.int 0)))) (tNot (tTr K (tVar 5)))))
    (tRet (tC (V.bl false))) tNext)
    (tSeq (tIfS (tTest (tOp (rNeA K) (tCB rRepr (tCons (tCall spIsBefore [] E0 (tCons (tVar 0) (tCons (tVar 2) (tCons (tVar 3) (tCons (tVar 4) tNil))))) tNil)) (tCB rRepr (tCons (tVar 5) tNil))))
    (tRet (tC (V.bl false))) tNext)
    (tSeq (tIfS (tTest (tOp (rNeA K) (tCB rRepr (tCons (tCallW spIsBefore (fun {α : Type} (us ws : List α) => [(ws.drop 3).head?, (ws.drop 2).head?, (ws.drop 1).head?, (ws.drop 0).head?].filterMap id) 4 E0 (tCons (tVar 4) (tCons (tVar 3) (tCons (tVar 2) (tCons (tVar 0) tNil))))) tNil)) (tCB rRepr (tCons (tVar 5) tNil))))
    (tRet (tC (V.bl false))) tNext)
    (tSeq (tIfS (tOr (tAnd (tTest (tOp (rInA K) (tC (V.int 0)) (tTup (tCons (tVar 3) (tCons (tVar 4) tNil))))) (tTest (tOp (rEqA K) (tVar 3) (tC (V.int 0))))) (tTest (tOp (rEqA K) (tVar 3) (tVar 4))))
    (tRet (tC (V.bl true))) tNext)
    (tSeq (tAsg (tLc (iEnA K (tCons (tVar 0) tNil)) (gTup K 2 (gCons (gName 7) (gCons (gName 8) gNil))) (tTest (tOp (rEqA K) (tOp (rIx K) (tVar 8) (tC (V.int 1))) (tVar 3))) (tVar 7) [7, 8]) (gName 6))
    (tSeq (tAsg (tLc (iEnA K (tCons (tVar 0) tNil)) (gTup K 2 (gCons (gName 7) (gCons (gName 8) gNil))) (tTest (tOp (rEqA K) (tOp (rIx K) (tVar 8) (tC (V.int 1))) (tVar 4))) (tVar 7) [7, 8]) (gName 9))
    (tRet (tOp (rEqA K) (tVar 5) (tCB (rAny K) (tCons (tLc (iSeq K (tVar 6)) (gName 10) tYes (tCB (rAny K) (tCons (tLc (iSeq K (tVar 9)) (gName 11) tYes (tCall spSurely [] E0 (tCons (tVar 0) (tCons (tVar 2) (tCons (tVar 10) (tCons (tVar 11) tNil))))) [11]) tNil)) [10]) tNil)))))))))))

def t__law_log_right_1 (K : PySem.W.Frag) : TS :=
  (tIfS (tNot (tB (tCB (rAll K) (tCons (tLc (iKeys (tVar 2)) (gName 5) tYes (tCall spPairR [] E0 (tCons (tVar 0) (tCons (tVar 2) (tCons (tVar 1) (tCons (tVar 4) (tCons (tVar 5) tNil)))))) [5]) tNil))))
    (tRet (tC (V.bl false))) tNext)

def t__law_log_right (K : PySem.W.Frag) : TS :=
  (tSeq (tAsg (tTup (tCons (tCall spEndsL [] E0 (tCons (tVar 0) tNil)) (tCons (tCB rRepr (tCons (tVar 0) tNil)) tNil))) (gTup K 2 (gCons (gName 2) (gCons (gName 3) gNil))))
    (tSeq (tLock (tFor (iKeys (tVar 2)) (gName 4)
    (t__law_log_right_1 K)))
    (tRet (tOp (rEqA K) (tCB rRepr (tCons (tVar 0) tNil)) (tVar 3)))))

def t6__law_right_1 (K : PySem.W.Frag) : TS :=
  (tIfS (tNot (tB (tCall spLogR [] E0 (tCons (tVar 3) (tCons (tVar 7) tNil)))))
    (tRet (tC (V.bl false))) tNext)

def t6__law_right_2 (K : PySem.W.Frag) : TS :=
  (tSeq (tPar 4 5 (tCons (tCall spDraw [] E0 (tCons (tVar 0) (tCons (tCB (rLen K) (tCons (tVar 3) tNil)) tNil))) (tCons (tCall spDraw [] E0 (tCons (tVar 0) (tCons (tCB (rLen K) (tCons (tVar 3) tNil)) tNil))) tNil)))
    (tSeq (tAsg (tCB rMax2 (tCons (tC (V.int 0)) (tCons (tOp rSubI (tOp (rIx K) (tOp (rIx K) (tVar 3) (tVar 4)) (tC (V.int 2))) (tOp (rIx K) (tOp (rIx K) (tVar 3) (tVar 5)) (tC (V.int 3)))) tNil))) (gName 6))
    (tFor (iTup K (tTup (tCons (tC (V.int 0)) (tCons (tVar 6) (tCons (tCB rMax2 (tCons (tC (V.int 0)) (tCons (tOp rSubI (tVar 6) (tC (V.int 1))) tNil))) (tCons (tOp (rMulA K) (tC (V.int 2)) (tVar 1)) (tCons (tOp rPowI (tC (V.int 10)) (tC (V.int 16))) tNil))))))) (gName 7)
    (t6__law_right_1 K))))

def t6__law_right_3 (K : PySem.W.Frag) : TS :=
  (tSeq (tAsg (tOp (rAddA K) (tCall (spAny K) [] E0 (tCons (tVar 0) (tCons (tLst (tCons (tCall spWild [] E0 (tCons (tVar 0) (tCons (tC (V.int 12)) (tCons (tC (V.int 14)) tNil)))) (tCons (tCall spTrue [] E0 (tCons (tVar 0) (tCons (tC (V.int 12)) (tCons (tC (V.int 2)) (tCons (tC (V.int 5)) tNil))))) tNil))) tNil))) (tTup (tCons (tTup (tCons (tC (V.str "read")) (tCons (tC (V.int 0)) (tCons (tUn rNegI (tVar 1)) (tCons (tVar 1) tNil))))) tNil))) (gName 3))
    (tSeq (tIfS (tTest (tOp (rEqA K) (tCall spDraw [] E0 (tCons (tVar 0) (tCons (tC (V.int 2)) tNil))) (tC (V.int 0))))
    (tAsg (tOp (rAddA K) (tVar 3) (tTup (tCons (tTup (tCons (tC (V.str "read")) (tCons (tC (V.int 0)) (tCons (tVar 1) (tCons (tVar 1) tNil))))) (tCons (tTup (tCons (tC (V.str "write")) (tCons (tOp rPowI (tC (V.int 10)) (tC (V.int 9))) (tCons (tUn rNegI (tVar 1)) (tCons (tUn rNegI (tVar 1)) tNil))))) tNil)))) (gName 3)) tNext)
    (t6__law_right_2 K)))

def t6__law_right (K : PySem.W.Frag) : TS :=
  (tSeq (tAsg (tOp rPowI (tC (V.int 10)) (tC (V.int 15))) (gName 1))
    (tSeq (tFor (iRng1 (tCons (tC (V.int 3)) tNil)) (gName 2)
    (t6__law_right_3 K))
    (tRet (tC (V.bl true)))))

/-- [te for slot i in a tuple], te an int of the operation -/
theorem lc_ops {K : PySem.W.Frag} {σ : LB.St} {H : Hp} {Q : VK} {t : Addr} {ops : List Op} {s i : Nat} {te : TE} {key : Op → V} (es : σ[s]? = some (some (.ref t))) (lg : LogAt H t ops) (few : ops.length ≤ 200)
    (he : ∀ (u : Addr) (o : Op) (H2 : Hp) (Q2 : VK), H2 u = some (opT o) → Q2 (key o) H2 → te ((σ.set i none).set i (some (.ref u))) H2 Q2)
    (q : ∀ (p : Addr) (H' : Hp), Keep NoS H H' → H p = none → H' p = some (.lst (ops.map key)) → Q (.ref p) H') : tLc (iSeq K (tVar s)) (gName i) tYes te [i] σ H Q := by
  obtain ⟨xs, hx, hl, hi⟩ := id lg
  refine .inr (w_var es ⟨t, rfl, ⟨xs, .inl (.inl hx)⟩, fun D hD => ?_⟩)
  refine lc_tup (xs := xs) (fun n H' => Keep NoS H H' ∧ H' D = some (.lst ((ops.take n).map key))) ⟨Keep.new hD, upd_same⟩ (fun n H' _ h => .inl (.inl (h.1.tup _ _ hx))) ?_ ?_
  · rintro n x H1 hn ⟨k1, hb⟩
    have ln : n < ops.length := by
      rw [← hl]
      by_cases z : n < xs.length
      · exact z
      · rw [List.getElem?_eq_none (by omega)] at hn; cases hn
    have ho : ops[n]? = some ops[n] := List.getElem?_eq_getElem ln
    obtain ⟨u, e1, e2⟩ := hi n _ ho
    rw [hn] at e1
    cases e1
    refine ⟨by show ((σ.set i none).set i _).set i none = σ.set i none; rw [List.set_set, List.set_set], ?_⟩
    simp only [tYes, if_true]
    refine he u ops[n] H1 _ (k1.tup _ _ e2) ⟨_, hb, ?_, k1.put0 hD hb, ?_⟩
    · rw [List.length_map, List.length_take]
      exact Nat.lt_of_le_of_lt (by omega : _ ≤ 1000) (by decide)
    · rw [List.take_add_one, ho, List.map_append]
      exact upd_same
  · rintro H1 ⟨k1, hb⟩
    rw [hl, List.take_length] at hb
    exact q D H1 k1 hD hb
theorem pure__law_worths {K : PySem.W.Frag} {vs : List V} {H : Hp} {Q : VK} {E : XK} (h : spWorths vs H Q E) : t__law_worths K { nx := fun _ H' => Q .non H', rt := Q } (start ["log", "one"] vs) H := by
  obtain ⟨t, ops, rfl, lg, few, q⟩ := h
  show t__law_worths K _ [some (.ref t), none] H
  unfold t__law_worths
  walk_at "ws_10"
  refine lc_ops (t := t) (ops := ops) (key := fun o => .int o.v) (by with_unfolding_all rfl) lg few (fun u o H2 Q2 hu q2 => w_op (w_var (by with_unfolding_all rfl) (w_c (o_ixt (n := 1) hu rfl q2)))) fun p H1 k1 zp hp => ?_
  refine ⟨p, ops.map (·.v), rfl, .inl (.inl (by rw [hp, List.map_map]; rfl)), by rw [List.length_map]; omega, fun ms p2 H2 asc mem nw => ?_⟩
  have e : ms = vals ops := asc_eq asc (vals_asc ops) fun k => by rw [mem, vals_mem]
  subst e
  exact q p2 H2 (k1.trans nw.keep) (free_of k1 id nw.no) nw.at_
theorem min_first {ops : List Op} {v : Int} (hv : v ∈ vals ops) {ms : List Int} (e : ms = (ops.filter fun o => decide (o.v = v)).map (·.e)) {m : Int} (hm : m ∈ ms) (hl : ∀ y ∈ ms, m ≤ y) : m = firstE ops v := by
  subst e
  obtain ⟨q, b⟩ := bE_best hv
  have h1 : firstE ops v ∈ (ops.filter fun o => decide (o.v = v)).map (·.e) := by
    rw [firstE_is b]
    exact List.mem_map.mpr ⟨q, List.mem_filter.mpr ⟨List.mem_of_getElem? b.at_, by simpa using b.val⟩, rfl⟩
  have h2 := hl _ h1
  obtain ⟨o, ho, rfl⟩ := List.mem_map.mp hm
  obtain ⟨ho1, ho2⟩ := List.mem_filter.mp ho
  obtain ⟨i, hi, ei⟩ := List.mem_iff_getElem.mp ho1
  have h3 := firstE_le (ops := ops) (v := v) (i := i) (o := o) (by rw [List.getElem?_eq_getElem hi, ei]) (by simpa using ho2)
  omega
theorem max_last {ops : List Op} {v : Int} (hv : v ∈ vals ops) {ms : List Int} (e : ms = (ops.filter fun o => decide (o.v = v)).map (·.b)) {m : Int} (hm : m ∈ ms) (hl : ∀ y ∈ ms, y ≤ m) : m = lastB ops v := by
  subst e
  obtain ⟨q, b⟩ := bB_best hv
  have h1 : lastB ops v ∈ (ops.filter fun o => decide (o.v = v)).map (·.b) := by
    rw [lastB_is b]
    exact List.mem_map.mpr ⟨q, List.mem_filter.mpr ⟨List.mem_of_getElem? b.at_, by simpa using b.val⟩, rfl⟩
  have h2 := hl _ h1
  obtain ⟨o, ho, rfl⟩ := List.mem_map.mp hm
  obtain ⟨ho1, ho2⟩ := List.mem_filter.mp ho
  obtain ⟨i, hi, ei⟩ := List.mem_iff_getElem.mp ho1
  have h3 := lastB_ge (ops := ops) (v := v) (i := i) (o := o) (by rw [List.getElem?_eq_getElem hi, ei]) (by simpa using ho2)
  omega
/-- a list of operations in the heap -/
def OpsL (H : Hp) (a : Addr) (ops : List Op) : Prop := ∃ xs : List V, H a = some (.lst xs) ∧ xs.length = ops.length ∧ ∀ (i : Nat) (o : Op), ops[i]? = some o → ∃ u, xs[i]? = some (.ref u) ∧ H u = some (opT o)
/-- [te for slot i in a list of operations] -/
theorem lc_opsL {K : PySem.W.Frag} {σ : LB.St} {H : Hp} {Q : VK} {t : Addr} {ops : List Op} {s i : Nat} {te : TE} {key : Op → V} (es : σ[s]? = some (some (.ref t))) (lg : OpsL H t ops) (few : ops.length ≤ 200)
    (he : ∀ (u : Addr) (o : Op) (H2 : Hp) (Q2 : VK), H2 u = some (opT o) → Q2 (key o) H2 → te ((σ.set i none).set i (some (.ref u))) H2 Q2)
    (q : ∀ (p : Addr) (H' : Hp), Keep NoS H H' → H p = none → H' p = some (.lst (ops.map key)) → Q (.ref p) H') : tLc (iSeq K (tVar s)) (gName i) tYes te [i] σ H Q := by
  obtain ⟨xs, hx, hl, hi⟩ := id lg
  refine .inl (w_var es ⟨t, rfl, ⟨xs, .inl (.inl hx)⟩, fun D hD => ?_⟩)
  refine lc_list (xs := xs) (fun n H' => Keep NoS H H' ∧ H' D = some (.lst ((ops.take n).map key))) ⟨Keep.new hD, upd_same⟩ (fun n H' _ h => .inl (.inl (h.1.all _ _ id hx))) ?_ ?_
  · rintro n x H1 hn ⟨k1, hb⟩
    have ln : n < ops.length := by
      rw [← hl]
      by_cases z : n < xs.length
      · exact z
      · rw [List.getElem?_eq_none (by omega)] at hn; cases hn
    have ho : ops[n]? = some ops[n] := List.getElem?_eq_getElem ln
    obtain ⟨u, e1, e2⟩ := hi n _ ho
    rw [hn] at e1
    cases e1
    refine ⟨by show ((σ.set i none).set i _).set i none = σ.set i none; rw [List.set_set, List.set_set], ?_⟩
    simp only [tYes, if_true]
    refine he u ops[n] H1 _ (k1.tup _ _ e2) ⟨_, hb, ?_, k1.put0 hD hb, ?_⟩
    · rw [List.length_map, List.length_take]
      exact Nat.lt_of_le_of_lt (by omega : _ ≤ 1000) (by decide)
    · rw [List.take_add_one, ho, List.map_append]
      exact upd_same
  · rintro H1 ⟨k1, hb⟩
    rw [hl, List.take_length] at hb
    exact q D H1 k1 hD hb
/-- [o for slot i in a log if o[1] == slot k] -/
theorem lc_own {K : PySem.W.Frag} {σ : LB.St} {H : Hp} {Q : VK} {t : Addr} {ops : List Op} {s i k : Nat} {v : Int} (es : σ[s]? = some (some (.ref t))) (ek : σ[k]? = some (some (.int v))) (n1 : k ≠ i) (li : i < σ.length) (lg : LogAt H t ops) (few : ops.length ≤ 200)
    (q : ∀ (p : Addr) (H' : Hp), Keep NoS H H' → H p = none → OpsL H' p (ops.filter fun o => decide (o.v = v)) → Q (.ref p) H') : tLc (iSeq K (tVar s)) (gName i) (tTest (tOp (rEqA K) (tOp (rIx K) (tVar i) (tC (V.int 1))) (tVar k))) (tVar i) [i] σ H Q := by
  obtain ⟨xs, hx, hl, hi⟩ := id lg
  refine .inr (w_var es ⟨t, rfl, ⟨xs, .inl (.inl hx)⟩, fun D hD => ?_⟩)
  refine lc_tup (xs := xs) (fun n H' => Keep NoS H H' ∧ OpsL H' D ((ops.take n).filter fun o => decide (o.v = v))) ⟨Keep.new hD, [], upd_same, rfl, fun i o e => by simp at e⟩ (fun n H' _ h => .inl (.inl (h.1.tup _ _ hx))) ?_ ?_
  · rintro n x H1 hn ⟨k1, ys, hb, hyl, hy⟩
    have ln : n < ops.length := by
      rw [← hl]
      by_cases z : n < xs.length
      · exact z
      · rw [List.getElem?_eq_none (by omega)] at hn; cases hn
    have ho : ops[n]? = some ops[n] := List.getElem?_eq_getElem ln
    obtain ⟨u, e1, e2⟩ := hi n _ ho
    rw [hn] at e1
    cases e1
    refine ⟨by show ((σ.set i none).set i _).set i none = σ.set i none; rw [List.set_set, List.set_set], ?_⟩
    have hu := k1.tup _ _ e2
    have g1 : ((σ.set i none).set i (some (V.ref u)))[i]? = some (some (V.ref u)) := by simp [li]
    have g2 : ((σ.set i none).set i (some (V.ref u)))[k]? = some (some (V.int v)) := by
      rw [List.getElem?_set_ne (Ne.symm n1), List.getElem?_set_ne (Ne.symm n1)]
      exact ek
    refine w_test (w_op (w_op (w_var g1 (w_c (o_ixt (n := 1) hu rfl (w_var g2 ?_))))))
    refine o_eqs rfl ⟨_, rfl, ?_⟩
    rw [show decide (V.int ops[n].v = V.int v) = decide (ops[n].v = v) by simp]
    have et : (ops.take (n + 1)).filter (fun o => decide (o.v = v)) = (ops.take n).filter (fun o => decide (o.v = v)) ++ (if ops[n].v = v then [ops[n]] else []) := by
      rw [List.take_add_one, ho, List.filter_append]
      by_cases c : ops[n].v = v <;> simp [c]
    refine w_ite (fun c => ?_) (fun c => ?_)
    · refine w_var g1 ⟨_, hb, ?_, k1.put0 hD hb, ys ++ [.ref u], upd_same, ?_, ?_⟩
      · have := List.length_filter_le (fun o : Op => decide (o.v = v)) (ops.take n)
        rw [List.length_take] at this
        exact Nat.lt_of_le_of_lt (by omega : _ ≤ 1000) (by decide)
      · rw [et, if_pos c, List.length_append, List.length_append, hyl]
        rfl
      · intro m o em
        rw [et, if_pos c] at em
        have nD : ∀ w, H1 w = some (opT o) → w ≠ D := fun w hw z => by rw [z, hb] at hw; cases hw
        by_cases lm : m < ys.length
        · rw [List.getElem?_append_left (by omega)] at em
          obtain ⟨w, a1, a2⟩ := hy m o em
          exact ⟨w, by rw [List.getElem?_append_left lm]; exact a1, by rw [upd_ne (nD w a2)]; exact a2⟩
        · rw [List.getElem?_append_right (by omega)] at em
          by_cases z : m = ys.length
          · subst z
            rw [show ys.length - ((ops.take n).filter fun o => decide (o.v = v)).length = 0 by omega] at em
            have em : ops[n] = o := Option.some.inj em
            subst em
            exact ⟨u, by rw [List.getElem?_append_right (by omega)]; simp, by rw [upd_ne (nD u hu)]; exact hu⟩
          · rw [List.getElem?_eq_none (by simp; omega)] at em
            cases em
    · refine ⟨k1, ys, hb, by rw [et, if_neg c, List.append_nil]; exact hyl, fun m o em => ?_⟩
      rw [et, if_neg c, List.append_nil] at em
      exact hy m o em
  · rintro H1 ⟨k1, ol⟩
    rw [hl, List.take_length] at ol
    exact q D H1 k1 hD ol
theorem pure__law_ends {K : PySem.W.Frag} {vs : List V} {H : Hp} {Q : VK} {E : XK} (h : spEndsL vs H Q E) : t__law_ends K { nx := fun _ H' => Q .non H', rt := Q } (start ["book", "found", "worth", "own", "left", "first"] vs) H := by
  obtain ⟨t, ops, rfl, lg, few, q⟩ := h
  show t__law_ends K _ [some (.ref t), none, none, none, none, none] H
  unfold t__law_ends
  walk_at "ws_10"
  refine w_dnew fun d H1 n1 => ?_
  walk_at "ws_10"
  refine w_forSl ?_
  walk_at "ws_10"
  refine ⟨t, ops, rfl, lg.keep n1.keep (S := NoS), few, fun p H2 k2 zp hp => ?_⟩
  have pd : p ≠ d := fun z => by rw [z, n1.at_] at zp; cases zp
  refine k_Fl hp (fun n σ H' => (∃ x2 x3 x4 x5, σ = [some (.ref t), some (.ref d), x2, x3, x4, x5]) ∧ Keep NoS H H' ∧ H' p = some (.lst ((vals ops).map V.int)) ∧ ∃ f : Int → V, H' d = some (.dK (mkD ((vals ops).take n) f)) ∧ ∀ v ∈ (vals ops).take n, ∃ u, f v = .ref u ∧ H' u = some (.tup [.int (fstL ops v), .int (lastB ops v)]))
    ⟨⟨_, _, _, _, rfl⟩, n1.keep.trans k2, hp, fun _ => .non, k2.all _ _ id n1.at_, fun v hv => by simp at hv⟩ (fun n σ H' _ h => h.2.2.1) ?_ ?_
  · rintro n x σ H3 hn ⟨⟨x2, x3, x4, x5, rfl⟩, k3, hp3, f, hf, hv⟩
    rw [List.getElem?_map] at hn
    obtain ⟨v, ev, rfl⟩ := Option.map_eq_some_iff.mp hn
    have hvv : v ∈ vals ops := List.mem_of_getElem? ev
    walk_at "ws_10"
    unfold t__law_ends_1
    walk_at "ws_10"
    refine lc_own (t := t) (v := v) (by with_unfolding_all rfl) (by with_unfolding_all rfl) (by decide) (by simp) (lg.keep k3) few fun o H4 k4 zo ol => ?_
    have fl : (ops.filter fun o => decide (o.v = v)).length ≤ 200 := Nat.le_trans (List.length_filter_le _ _) few
    have fpos : 0 < (ops.filter fun o => decide (o.v = v)).length := by
      obtain ⟨i, q0, h1, h2⟩ := vals_at.mp hvv
      exact List.length_pos_of_mem (List.mem_filter.mpr ⟨List.mem_of_getElem? h1, by simpa using h2⟩)
    walk_at "ws_10"
    have tail : ∀ (m : Int) (H5 : Hp) (D0 : Ends), m = fstL ops v → Keep NoS H4 H5 → (D0.nx = fun σ H' => (∃ x2 x3 x4 x5, σ = [some (.ref t), some (.ref d), x2, x3, x4, x5]) ∧ Keep NoS H H' ∧ H' p = some (.lst ((vals ops).map V.int)) ∧ ∃ f : Int → V, H' d = some (.dK (mkD ((vals ops).take (n + 1)) f)) ∧ ∀ v ∈ (vals ops).take (n + 1), ∃ u, f v = .ref u ∧ H' u = some (.tup [.int (fstL ops v), .int (lastB ops v)])) →
        (sDPut (tVar 1) (tVar 2) (tTup (tCons (tVar 5) (tCons (tCB (rMax K) (tCons (tLc (iSeq K (tVar 3)) (gName 4) tYes (tOp (rIx K) (tVar 4) (tC (V.int 2))) [4]) tNil)) tNil)))) D0 [some (.ref t), some (.ref d), some (.int v), some (.ref o), x4, some (.int m)] H5 := by
      intro m H5 D0 em k5 eD
      obtain ⟨ys, y1, y2, y3⟩ := ol
      have ol5 : OpsL H5 o (ops.filter fun o => decide (o.v = v)) := ⟨ys, k5.all _ _ id y1, y2, fun i o e => by obtain ⟨u, a, b⟩ := y3 i o e; exact ⟨u, a, k5.tup _ _ b⟩⟩
      refine w_dput ?_
      walk_at "ws_10"
      refine lc_opsL (t := o) (key := fun o => .int o.b) (by with_unfolding_all rfl) ol5 fl (fun u o H2 Q2 hu q2 => w_op (w_var (by with_unfolding_all rfl) (w_c (o_ixt (n := 2) hu rfl q2)))) fun b H6 k6 zb hb => ?_
      walk_at "ws_10"
      refine ⟨b, (ops.filter fun o => decide (o.v = v)).map (·.b), rfl, .inl (.inl (by rw [hb, List.map_map]; rfl)), by rw [List.length_map]; exact fpos, fun mx hm1 hm2 => ?_⟩
      have e2 := max_last hvv rfl hm1 hm2
      subst e2
      walk_at "ws_10"
      refine k_tup (by simp; decide) fun u H7 n7 => ?_
      have k37 : Keep NoS H3 H7 := ((k4.trans k5).trans k6).trans n7.keep
      have hf7 := k37.all _ _ id hf
      have lt1 : ((vals ops).take n).length ≤ 1000 := by rw [List.length_take]; have := vals_len ops; omega
      walk_at "ws_10"
      refine o_dput hf7 lt1 ?_
      rw [eD]
      have nv : v ∉ (vals ops).take n := fun z => by
        have h0 := (List.getElem?_eq_some_iff.mp ev)
        obtain ⟨hn', en⟩ := h0
        have pw := vals_asc ops
        rw [← List.take_append_drop n (vals ops)] at pw
        have h1 := (List.pairwise_append.mp pw).2.2 v z v (by rw [List.mem_iff_getElem?]; exact ⟨0, by rw [List.getElem?_drop]; simpa using ev⟩)
        omega
      refine ⟨⟨_, _, _, _, rfl⟩, (k3.trans k37).putO (o := .lst []) n1.no, by rw [upd_ne pd]; exact k37.all _ _ id hp3, fun w => if w = v then .ref u else f w, ?_, ?_⟩
      · rw [upd_same, mkD_put, if_neg nv, List.take_add_one, ev]
        rfl
      · intro w hw
        rw [List.take_add_one, ev] at hw
        have ud : u ≠ d := fun z => by have := n7.no; rw [z, ((k4.trans k5).trans k6).all _ _ id hf] at this; cases this
        by_cases z : w = v
        · subst z
          exact ⟨u, if_pos rfl, by rw [upd_ne ud, n7.at_, em]⟩
        · simp only [Option.toList_some, List.mem_append, List.mem_singleton, z, or_false] at hw
          obtain ⟨u0, c1, c2⟩ := hv w hw
          refine ⟨u0, (if_neg z).trans c1, ?_⟩
          rw [upd_ne (fun y => by rw [y, hf] at c2; cases c2)]
          exact k37.tup _ _ c2
    refine w_ite (fun c => ?_) (fun c => ?_)
    · walk_at "ws_10"
      refine lc_opsL (t := o) (key := fun o => .int o.e) (by with_unfolding_all rfl) ol fl (fun u o H2 Q2 hu q2 => w_op (w_var (by with_unfolding_all rfl) (w_c (o_ixt (n := 3) hu rfl q2)))) fun b H6 k6 zb hb => ?_
      walk_at "ws_10"
      refine ⟨b, (ops.filter fun o => decide (o.v = v)).map (·.e), rfl, .inl (.inl (by rw [hb, List.map_map]; rfl)), by rw [List.length_map]; exact fpos, fun mx hm1 hm2 => ?_⟩
      have e2 := min_first hvv rfl hm1 hm2
      walk_at "ws_10"
      exact tail mx H6 _ (by rw [e2]; unfold fstL; rw [if_pos c]) k6 rfl
    · walk_at "ws_10"
      refine o_pow ⟨by decide, by decide +kernel⟩ ?_
      walk_at "ws_10"
      exact tail _ H4 _ (by unfold fstL; rw [if_neg c]; decide +kernel) (Keep.refl _ _) rfl
  · rintro σ H3 ⟨⟨x2, x3, x4, x5, rfl⟩, k3, hp3, f, hf, hv⟩
    rw [List.length_map, List.take_length] at hf hv
    walk_at "ws_10"
    exact q d H3 f k3 n1.no hf ⟨f, .inl hf, hv⟩

theorem vals_ok {ops : List Op} (ok : ∀ o ∈ ops, o.ok) {v : Int} (hv : v ∈ vals ops) : 0 ≤ v ∧ (-1000000000000000 ≤ firstE ops v ∧ firstE ops v ≤ 1000000000000000) ∧ -1000000000000000 ≤ lastB ops v ∧ lastB ops v ≤ 1000000000000000 := by
  obtain ⟨q, b⟩ := bE_best hv
  obtain ⟨q2, b2⟩ := bB_best hv
  have h1 := ok q (List.mem_of_getElem? b.at_)
  have h2 := ok q2 (List.mem_of_getElem? b2.at_)
  rw [firstE_is b, lastB_is b2]
  have := b.val
  unfold Op.ok at h1 h2
  omega
theorem take_snoc {α : Type} {l : List α} {i : Nat} {a : α} (h : l[i]? = some a) : l.take (i + 1) = l.take i ++ [a] := by
  rw [List.take_add_one, h]
  rfl
theorem o_inIntsT {K : PySem.W.Frag} {H : Hp} {Q : VK} {a : Addr} {ws : List Int} {z : Int} (e : H a = some (.tup (ws.map V.int))) (q : Q (.bl (decide (z ∈ ws))) H) : rInA K (.int z) (.ref a) H Q :=
  .inl ⟨a, _, rfl, .inr (.inl (.inl e)), rfl, flat_ints, by rw [if_neg (by decide), inV_ints]; exact q⟩
theorem truB {K : PySem.W.Frag} {H : Hp} {b : Bool} : TruV K (.bl b) H b := by
  unfold TruV
  first
    | exact .inl rfl
    | exact .inl ⟨_, rfl, rfl⟩
    | simp
/-- the law's own word of two values -/
def dueL (ops : List Op) (tol u v : Int) : Bool := if u = v then false else decide (fstL ops u + tol < lastB ops v)
theorem due_is {ops : List Op} (ok : ∀ o ∈ ops, o.ok) {tol u v : Int} (hu : u ∈ vals ops) (hv : v ∈ vals ops) (h1 : tol ≤ 10000000000000000) : dueL ops tol u v = isBef ops tol u v := by
  unfold dueL isBef befV spanF spBef fstL
  have := vals_ok ok hu
  have := vals_ok ok hv
  by_cases e : u = v
  · rw [if_pos e, if_pos e]
  · rw [if_neg e, if_neg e]
    by_cases z : u = 0
    · rw [if_neg (by omega), if_pos z]
      exact decide_eq_true (by omega)
    · rw [if_pos (by omega), if_neg z]
theorem sure_any {ops : List Op} {tol u v : Int} (hu : u ∈ vals ops) (hv : v ∈ vals ops) (z : ¬ u = 0) (e : ¬ u = v) : ((idxOf ops u).map fun a => ((idxOf ops v).map fun b => sureB ops tol a b).any id).any id = isBef ops tol u v := by
  unfold isBef befV spanF spBef
  rw [if_neg e, if_neg z]
  rw [Bool.eq_iff_iff, List.any_eq_true]
  constructor
  · rintro ⟨x, hx, hx2⟩
    obtain ⟨a, ha, rfl⟩ := List.mem_map.mp hx
    have hx2 : (((idxOf ops v).map fun b => sureB ops tol a b).any id) = true := hx2
    rw [List.any_eq_true] at hx2
    obtain ⟨y, hy, hy2⟩ := hx2
    obtain ⟨b, hb, rfl⟩ := List.mem_map.mp hy
    obtain ⟨o, ho, eo⟩ := idx_mem.mp ha
    obtain ⟨q, hq, eq⟩ := idx_mem.mp hb
    have hy2 : sureB ops tol a b = true := hy2
    unfold sureB at hy2
    rw [ho, hq] at hy2
    have := of_decide_eq_true hy2
    have := firstE_le ho eo
    have := lastB_ge hq eq
    exact decide_eq_true (by omega)
  · intro h
    have h := of_decide_eq_true h
    obtain ⟨q1, b1⟩ := bE_best hu
    obtain ⟨q2, b2⟩ := bB_best hv
    rw [firstE_is b1, lastB_is b2] at h
    refine ⟨_, List.mem_map.mpr ⟨bE ops u, idx_mem.mpr ⟨q1, b1.at_, b1.val⟩, rfl⟩, ?_⟩
    show (List.any _ id) = true
    rw [List.any_eq_true]
    refine ⟨_, List.mem_map.mpr ⟨bB ops v, idx_mem.mpr ⟨q2, b2.at_, b2.val⟩, rfl⟩, ?_⟩
    show sureB ops tol _ _ = true
    unfold sureB
    rw [b1.at_, b2.at_]
    exact decide_eq_true h
theorem zero_ne {ops : List Op} (ok : ∀ o ∈ ops, o.ok) {tol v : Int} (h0 : (0 : Int) ∈ vals ops) (hv : v ∈ vals ops) (e : ¬ v = 0) (h1 : tol ≤ 10000000000000000) : dueL ops tol 0 v = true := by
  rw [due_is ok h0 hv h1]
  unfold isBef befV spanF spBef
  rw [if_neg (fun z => e z.symm), if_pos rfl]
theorem pure__law_pair_right {K : PySem.W.Frag} {vs : List V} {H : Hp} {Q : VK} {E : XK} (h : spPairR vs H Q E) : t__law_pair_right K { nx := fun _ H' => Q .non H', rt := Q } (start ["book", "ends", "slack", "left", "right", "due", "own", "at", "call", "its", "a", "b"] vs) H := by
  obtain ⟨t, d, ops, tol, u, v, rfl, lg, few, ok, ea, t0, t1, hu, hv, q⟩ := h
  show t__law_pair_right K _ [some (.ref t), some (.ref d), some (.int tol), some (.int u), some (.int v), none, none, none, none, none, none, none] H
  unfold t__law_pair_right
  walk_at "ws_10"
  have e0 : (!decide (V.int u = V.int v)) = !decide (u = v) := by simp
  rw [e0]
  -- due
  have due : ∀ (R : VK), R (.bl (dueL ops tol u v)) H → (if (!decide (u = v)) = true then (tOp rLtI (tOp (rAddA K) (tOp (rIx K) (tDGet (tVar 1) (tVar 3)) (tC (V.int 0))) (tVar 2)) (tOp (rIx K) (tDGet (tVar 1) (tVar 4)) (tC (V.int 1)))) [some (.ref t), some (.ref d), some (.int tol), some (.int u), some (.int v), none, none, none, none, none, none, none] H R else R (.bl false) H) := by
    intro R hR
    unfold dueL at hR
    refine w_iteb (fun c => ?_) (fun c => ?_)
    · have ne : ¬ u = v := by simpa using c
      rw [if_neg ne] at hR
      obtain ⟨w1, g1, h1⟩ := ea.get hu
      obtain ⟨w2, g2, h2⟩ := ea.get hv
      walk_at "ws_10"
      refine w_dget ?_
      walk_at "ws_10"
      refine o_dgetS g1 ?_
      walk_at "ws_10"
      refine w_dget ?_
      walk_at "ws_10"
      refine o_dgetS g2 ?_
      walk_at "ws_10"
      exact hR
    · have ne : u = v := by simpa using c
      rw [if_pos ne] at hR
      exact hR
  refine due _ ?_
  have eD := due_is ok hu hv t1
  generalize hD : dueL ops tol u v = D at *
  have key : ∀ (X6 X7 X8 X9 X10 X11 : Option V) (Qb : Bool → Hp → Prop), Qb false H → (if decide (u = 0) = true then (tAnd (tTest (tOp (rNeA K) (tVar 4) (tC (V.int 0)))) (tNot (tTr K (tVar 5)))) [some (.ref t), some (.ref d), some (.int tol), some (.int u), some (.int v), some (.bl D), X6, X7, X8, X9, X10, X11] H Qb else Qb false H) := by
    intro X6 X7 X8 X9 X10 X11 Qb hq
    refine w_ite (fun z => ?_) (fun _ => hq)
    subst z
    walk_at "ws_10"
    have e2 : (!decide (V.int v = V.int 0)) = !decide (v = 0) := by simp
    rw [e2]
    refine w_iteb (fun c => ?_) (fun _ => hq)
    have ne : ¬ v = 0 := by simpa using c
    have hT := zero_ne ok hu hv ne t1
    rw [hD] at hT
    subst hT
    walk_at "ws_10"
    refine w_var (by with_unfolding_all rfl) ⟨true, truB, ?_⟩
    exact hq
  walk_at "ws_10"
  rw [show decide (V.int u = V.int 0) = decide (u = 0) by simp]
  refine key _ _ _ _ _ _ _ ?_
  refine w_iteF rfl ?_
  walk_at "ws_10"
  refine ⟨t, ops, tol, u, v, rfl, lg, few, hu, hv, fun H1 k1 => ?_⟩
  rw [← eD]
  walk_at "ws_10"
  refine o_reprB ?_
  walk_at "ws_10"
  refine o_reprB ?_
  walk_at "ws_10"
  refine w_iteF (by simp) ?_
  walk_at "ws_10"
  refine w_callW ?_
  walk_at "ws_10"
  refine ⟨rfl, t, ops, tol, u, v, rfl, lg.keep k1, few, hu, hv, fun H2 k2 => ?_⟩
  rw [← eD]
  walk_at "ws_10"
  refine o_reprB ?_
  walk_at "ws_10"
  refine o_reprB ?_
  walk_at "ws_10"
  refine w_iteF (by simp) ?_
  refine w_next ?_
  with_reducible refine w_seq ?_
  with_reducible refine w_ifs ?_
  have k12 := k1.trans k2
  -- the three that need no look
  have key2 : ∀ (X6 X7 X8 X9 X10 X11 : Option V) (Qb : Bool → Hp → Prop), (∀ H', Keep NoS H2 H' → (u = 0 ∨ u = v) → Qb true H') → (∀ H', Keep NoS H2 H' → ¬ u = 0 → ¬ u = v → Qb false H') →
      (tOr (tAnd (tTest (tOp (rInA K) (tC (V.int 0)) (tTup (tCons (tVar 3) (tCons (tVar 4) tNil))))) (tTest (tOp (rEqA K) (tVar 3) (tC (V.int 0))))) (tTest (tOp (rEqA K) (tVar 3) (tVar 4)))) [some (.ref t), some (.ref d), some (.int tol), some (.int u), some (.int v), some (.bl D), X6, X7, X8, X9, X10, X11] H2 Qb := by
    intro X6 X7 X8 X9 X10 X11 Qb h1 h2
    walk_at "ws_10"
    refine k_tup (by simp; decide) fun T H3 n3 => ?_
    refine o_inIntsT (ws := [u, v]) n3.at_ ?_
    walk_at "ws_10"
    have last : ∀ Qb2 : Bool → Hp → Prop, (u = v → Qb2 true H3) → (¬ u = v → Qb2 false H3) → (tTest (tOp (rEqA K) (tVar 3) (tVar 4))) [some (.ref t), some (.ref d), some (.int tol), some (.int u), some (.int v), some (.bl D), X6, X7, X8, X9, X10, X11] H3 Qb2 := by
      intro Qb2 g1 g2
      walk_at "ws_10"
      rw [show decide (V.int u = V.int v) = decide (u = v) by simp]
      by_cases c : u = v
      · rw [decide_eq_true c]; exact g1 c
      · rw [decide_eq_false c]; exact g2 c
    refine w_iteb (fun c => ?_) (fun c => ?_)
    · walk_at "ws_10"
      rw [show decide (V.int u = V.int 0) = decide (u = 0) by simp]
      by_cases z : u = 0
      · rw [decide_eq_true z]
        exact w_iteT rfl (h1 H3 n3.keep (.inl z))
      · rw [decide_eq_false z]
        exact w_iteF rfl (last _ (fun e => h1 H3 n3.keep (.inr e)) fun e => h2 H3 n3.keep z e)
    · have z : ¬ u = 0 := fun z => by simp [z] at c
      exact w_iteF rfl (last _ (fun e => h1 H3 n3.keep (.inr e)) fun e => h2 H3 n3.keep z e)
  refine key2 _ _ _ _ _ _ _ (fun H3 k3 z => ?_) (fun H3 k3 z1 z2 => ?_)
  · refine w_iteT rfl ?_
    walk_at "ws_10"
    exact q H3 (k12.trans k3)
  refine w_iteF rfl ?_
  walk_at "ws_10"
  have lg3 := (lg.keep k12).keep k3
  refine lc_idx (t := t) (v := u) (by with_unfolding_all rfl) (by with_unfolding_all rfl) lg3 (by decide) (by decide) (by decide) (by simp) (by simp) few fun o H4 k4 zo ho => ?_
  walk_at "ws_10"
  refine lc_idx (t := t) (v := v) (by with_unfolding_all rfl) (by with_unfolding_all rfl) (lg3.keep k4) (by decide) (by decide) (by decide) (by simp) (by simp) few fun i H5 k5 zi hi => ?_
  walk_at "ws_10"
  have ho5 := k5.all _ _ id ho
  have lg5 := (lg3.keep k4).keep k5
  have il : ∀ w, (idxOf ops w).length ≤ 200 := fun w => Nat.le_trans idxN_len few
  have idlt : ∀ {w : Int} {n m : Nat}, (idxOf ops w)[n]? = some m → m < ops.length := fun {w n m} h => by
    obtain ⟨q0, h1, _⟩ := idx_mem.mp (List.mem_of_getElem? h)
    by_cases z : m < ops.length
    · exact z
    · rw [List.getElem?_eq_none (by omega)] at h1; cases h1
  refine .inl (w_var (by with_unfolding_all rfl) ⟨o, rfl, ⟨_, .inl (.inl ho5)⟩, fun D1 hD1 => ?_⟩)
  refine lc_list (xs := (idxOf ops u).map fun n => V.int (n : Nat)) (fun n H' => Keep NoS H5 H' ∧ H' D1 = some (.lst ((((idxOf ops u).take n).map fun a => ((idxOf ops v).map fun b => sureB ops tol a b).any id).map V.bl))) ⟨Keep.new hD1, upd_same⟩ (fun n H' _ h => .inl (.inl (h.1.all _ _ id ho5))) ?_ ?_
  · rintro n x H6 hn ⟨k6, hb⟩
    rw [List.getElem?_map] at hn
    obtain ⟨a, ha, rfl⟩ := Option.map_eq_some_iff.mp hn
    refine ⟨rfl, ?_⟩
    simp only [tYes, if_true]
    have hi6 := k6.all _ _ id hi
    walk_at "ws_10"
    refine .inl (w_var (by with_unfolding_all rfl) ⟨i, rfl, ⟨_, .inl (.inl hi6)⟩, fun D2 hD2 => ?_⟩)
    refine lc_list (xs := (idxOf ops v).map fun n => V.int (n : Nat)) (fun n H' => Keep NoS H6 H' ∧ H' D2 = some (.lst ((((idxOf ops v).take n).map fun b => sureB ops tol a b).map V.bl))) ⟨Keep.new hD2, upd_same⟩ (fun n H' _ h => .inl (.inl (h.1.all _ _ id hi6))) ?_ ?_
    · rintro m y H7 hm ⟨k7, hb7⟩
      rw [List.getElem?_map] at hm
      obtain ⟨b, hb2, rfl⟩ := Option.map_eq_some_iff.mp hm
      refine ⟨rfl, ?_⟩
      simp only [tYes, if_true]
      walk_at "ws_10"
      refine ⟨t, ops, tol, a, b, rfl, (lg5.keep k6).keep k7, idlt ha, idlt hb2, fun H8 k8 => ?_⟩
      have hb8 := k8.all _ _ id hb7
      refine ⟨_, hb8, ?_, (k7.trans k8).put0 hD2 hb8, ?_⟩
      · rw [List.length_map, List.length_map, List.length_take]
        have := il v
        exact Nat.lt_of_le_of_lt (by omega : _ ≤ 1000) (by decide)
      · rw [take_snoc hb2, List.map_append, List.map_append]
        exact upd_same
    · rintro H7 ⟨k7, hb7⟩
      rw [List.length_map, List.take_length] at hb7
      walk_at "ws_10"
      refine ⟨D2, _, rfl, .inl (.inl hb7), ?_⟩
      have hb8 := k7.all _ _ id hb
      refine ⟨_, hb8, ?_, (k6.trans k7).put0 hD1 hb8, ?_⟩
      · rw [List.length_map, List.length_map, List.length_take]
        have := il u
        exact Nat.lt_of_le_of_lt (by omega : _ ≤ 1000) (by decide)
      · rw [take_snoc ha, List.map_append, List.map_append]
        exact upd_same
  · rintro H6 ⟨k6, hb⟩
    rw [List.length_map, List.take_length] at hb
    walk_at "ws_10"
    refine ⟨D1, _, rfl, .inl (.inl hb), ?_⟩
    rw [sure_any hu hv z1 z2, ← eD]
    walk_at "ws_10"
    have e9 : decide (V.bl D = V.bl D) = true := by simp
    rw [e9]
    exact q H6 (((k12.trans k3).trans (k4.trans k5)).trans k6)
theorem EndsAt.of_f {S : Addr → Prop} {H H' : Hp} {d : Addr} {ops : List Op} {f : Int → V} {od : Obj} (h2 : ∀ v ∈ vals ops, ∃ t, f v = .ref t ∧ H t = some (.tup [.int (fstL ops v), .int (lastB ops v)])) (k : Keep S H H') (e : H' d = some (.frz od (.dK (mkD (vals ops) f)))) : EndsAt H' d ops :=
  ⟨f, .inr ⟨od, e⟩, fun v hv => by obtain ⟨t, a, b⟩ := h2 v hv; exact ⟨t, a, k.tup _ _ b⟩⟩
theorem all_true {n : Nat} : (List.replicate n true).all id = true := by simp
theorem pure__law_log_right {K : PySem.W.Frag} {vs : List V} {H : Hp} {Q : VK} {E : XK} (h : spLogR vs H Q E) : t__law_log_right K { nx := fun _ H' => Q .non H', rt := Q } (start ["book", "slack", "ends", "kept", "left", "right"] vs) H := by
  obtain ⟨t, ops, tol, rfl, lg, few, ok, t0, t1, q⟩ := h
  show t__law_log_right K _ [some (.ref t), some (.int tol), none, none, none, none] H
  unfold t__law_log_right
  walk_at "ws_10"
  refine ⟨t, ops, rfl, lg, few, fun d H1 f0 k1 zd hd ea => ?_⟩
  have hf : ∃ f : Int → V, H1 d = some (.dK (mkD (vals ops) f)) ∧ ∀ v ∈ vals ops, ∃ u, f v = .ref u ∧ H1 u = some (.tup [.int (fstL ops v), .int (lastB ops v)]) := by
    obtain ⟨f, h1, h2⟩ := ea
    rcases h1 with h1 | ⟨o, h1⟩
    · exact ⟨f, h1, h2⟩
    · rw [hd] at h1; cases h1
  obtain ⟨f, hdf, hfv⟩ := hf
  walk_at "ws_10"
  refine o_reprLog (lg.keep k1) ok few ?_
  walk_at "ws_10"
  refine k_tup (by simp; decide) fun T H2 n2 => ?_
  refine w_gt2 n2.at_ ?_
  walk_at "ws_10"
  have k2 := k1.trans n2.keep
  have hd2 := n2.get hdf
  have lg2 := lg.keep k2
  refine ⟨d, _, hd2, trivial, fun od => ?_⟩
  have kL : Keep (At d) H2 (upd H2 d (.frz od (.dK (mkD (vals ops) f)))) := Keep.lock hd2
  have hf2 : ∀ v ∈ vals ops, ∃ u, f v = .ref u ∧ H2 u = some (.tup [.int (fstL ops v), .int (lastB ops v)]) := fun v hv => by obtain ⟨u, a, b⟩ := hfv v hv; exact ⟨u, a, n2.get b⟩
  have vl := vals_len ops
  refine ⟨.ref d, by with_unfolding_all rfl, d, od, rfl, .inl ⟨_, upd_same, ?_⟩⟩
  refine for_it walk_keys (fun n σ H' => (∃ x4 x5, σ = [some (.ref t), some (.int tol), some (.ref d), some (.str (PyData.tuple (ops.map Op.dat)).shown), x4, x5]) ∧ Keep (At d) H2 H' ∧ H' d = some (.frz od (.dK (mkD (vals ops) f)))) ⟨⟨_, _, rfl⟩, kL, upd_same⟩ (fun _ _ _ _ h => h.2.2) ?_ ?_
  · rintro n x σ H3 H4 hn ⟨⟨x4, x5, rfl⟩, k3, hd3⟩ ⟨rfl, kk, y, hk, rfl⟩
    obtain ⟨u, eu, rfl, rfl⟩ := mkD_at hk
    have hu : u ∈ vals ops := List.mem_of_getElem? eu
    walk_at "ws_10"
    unfold t__law_log_right_1
    walk_at "ws_10"
    refine ⟨.ref d, by with_unfolding_all rfl, d, od, rfl, .inl ⟨_, hd3, fun D hD => ?_⟩⟩
    refine lc_it walk_keys (fun m H' => Keep NoS H4 H' ∧ H' D = some (.lst ((List.replicate m true).map V.bl))) ⟨Keep.new hD, upd_same⟩ (fun _ H' _ h => h.1.all _ _ id hd3) ?_ ?_
    · rintro m z H5 H6 hm ⟨k5, hb⟩ ⟨rfl, kk2, y2, hk2, rfl⟩
      obtain ⟨v, ev, rfl, rfl⟩ := mkD_at hk2
      have hv : v ∈ vals ops := List.mem_of_getElem? ev
      have ml : m < 200 := by rw [mkD_len] at hm; omega
      refine ⟨rfl, ?_⟩
      simp only [tYes, if_true]
      walk_at "ws_10"
      refine ⟨t, d, ops, tol, u, v, rfl, (lg2.keep k3).keep k5, few, ok, EndsAt.of_f hf2 (k3.trans k5.of0) (k5.all _ _ id hd3), t0, t1, hu, hv, fun H7 k7 => ?_⟩
      have hb7 := k7.all _ _ id hb
      refine ⟨_, hb7, by rw [List.length_map, List.length_replicate]; exact Nat.lt_of_le_of_lt (by omega : m ≤ 1000) (by decide), (k5.trans k7).put0 hD hb7, ?_⟩
      rw [List.replicate_succ', List.map_append]
      exact upd_same
    · rintro H5 ⟨k5, hb⟩
      walk_at "ws_10"
      refine ⟨D, _, rfl, .inl (.inl hb), ?_⟩
      rw [all_true]
      walk_at "ws_10"
      refine w_iteF rfl ?_
      walk_at "ws_10"
      exact ⟨⟨_, _, rfl⟩, k3.trans k5.of0, k5.all _ _ id hd3⟩
  · rintro σ H3 ⟨⟨x4, x5, rfl⟩, k3, hd3⟩
    refine ⟨hd3, ?_⟩
    have k4 := k3.unlock hd2
    walk_at "ws_10"
    refine o_reprLog (lg2.keep k4) ok few ?_
    walk_at "ws_10"
    rw [show decide (V.str (PyData.tuple (ops.map Op.dat)).shown = V.str (PyData.tuple (ops.map Op.dat)).shown) = true by simp]
    exact q _ (k2.trans k4)
/-- a log with more operations behind -/
theorem LogAt.more {H : Hp} {c : Addr} {xs ys : List V} {as bs : List Op} (h : H c = some (.tup (xs ++ ys))) (l1 : xs.length = as.length) (h1 : ∀ (i : Nat) (o : Op), as[i]? = some o → ∃ u, xs[i]? = some (.ref u) ∧ H u = some (opT o)) (l2 : ys.length = bs.length) (h2 : ∀ (i : Nat) (o : Op), bs[i]? = some o → ∃ u, ys[i]? = some (.ref u) ∧ H u = some (opT o)) : LogAt H c (as ++ bs) := by
  refine ⟨xs ++ ys, h, by rw [List.length_append, List.length_append, l1, l2], fun i o e => ?_⟩
  by_cases z : i < as.length
  · rw [List.getElem?_append_left z] at e
    rw [List.getElem?_append_left (by omega)]
    exact h1 i o e
  · rw [List.getElem?_append_right (by omega)] at e
    rw [List.getElem?_append_right (by omega), l1]
    exact h2 _ o e
theorem right6_2 {K : PySem.W.Frag} {D : Ends} {p c : Addr} {ops : List Op} {N : Nat} {x2 x4 x5 x6 x7 : Option V} {H : Hp} (pt : Pot H p N) (hN : 2 ≤ N) (lg : LogAt H c ops) (few : ops.length ≤ 200) (pos : 0 < ops.length) (ok : ∀ o ∈ ops, o.ok)
    (q : ∀ (H' : Hp) (x4 x5 x6 x7 : Option V), Keep (At p) H H' → Pot H' p (N - 2) → D.nx [some (.ref p), some (.int 1000000000000000), x2, some (.ref c), x4, x5, x6, x7] H') :
    t6__law_right_2 K D [some (.ref p), some (.int 1000000000000000), x2, some (.ref c), x4, x5, x6, x7] H := by
  unfold t6__law_right_2
  obtain ⟨xs, hx, hl, _⟩ := id lg
  walk_at "ws_10"
  refine o_draw pt (by omega) (by omega) (by omega) fun H1 a k1 pt1 a0 a1 => ?_
  have hx1 := k1.tup _ _ hx
  walk_at "ws_10"
  refine o_draw pt1 (by omega) (by omega) (by omega) fun H2 b k2 pt2 b0 b1 => ?_
  have lg2 := (lg.keep k1).keep k2
  obtain ⟨i, rfl⟩ := Int.eq_ofNat_of_zero_le a0
  obtain ⟨j, rfl⟩ := Int.eq_ofNat_of_zero_le b0
  have li : i < ops.length := by omega
  have lj : j < ops.length := by omega
  obtain ⟨_, u1, c1, c2, c3⟩ := lg2.get (List.getElem?_eq_getElem li)
  obtain ⟨_, u2, d1, d2, d3⟩ := lg2.get (List.getElem?_eq_getElem lj)
  have o1 := ok _ (List.getElem_mem li)
  have o2 := ok _ (List.getElem_mem lj)
  unfold Op.ok at o1 o2
  walk_at "ws_10"
  refine o_ixt c1 c2 ?_
  walk_at "ws_10"
  refine o_ixt d1 d2 ?_
  walk_at "ws_10"
  generalize hg : (if ops[i].b - ops[j].e > 0 then ops[i].b - ops[j].e else (0 : Int)) = gap
  have g0 : 0 ≤ gap := by rw [← hg]; split <;> omega
  have g1 : gap ≤ 2000000000000000 := by rw [← hg]; split <;> omega
  refine o_pow ⟨by decide, by decide +kernel⟩ ?_
  walk_at "ws_10"
  refine k_tup (by simp; decide) fun T H3 n3 => ?_
  have kk : Keep (At p) H H3 := (k1.trans k2).trans n3.keep
  have hv : ∀ x ∈ [V.int 0, V.int gap, V.int (if gap - 1 > 0 then gap - 1 else 0), V.int (2 * 1000000000000000), V.int (10 ^ (16 : Int).toNat)], ∃ s : Int, x = .int s ∧ 0 ≤ s ∧ s ≤ 10000000000000000 := by
    intro x hx
    simp only [List.mem_cons, List.not_mem_nil, or_false] at hx
    rcases hx with rfl | rfl | rfl | rfl | rfl
    · exact ⟨_, rfl, by omega, by omega⟩
    · exact ⟨_, rfl, by omega, by omega⟩
    · exact ⟨_, rfl, by split <;> omega, by split <;> omega⟩
    · exact ⟨_, rfl, by omega, by omega⟩
    · exact ⟨_, rfl, by decide +kernel, by decide +kernel⟩
  refine k_Ft n3.at_ (fun _ σ H' => (∃ x7, σ = [some (.ref p), some (.int 1000000000000000), x2, some (.ref c), some (.int i), some (.int j), some (.int gap), x7]) ∧ Keep NoS H3 H') ⟨⟨_, rfl⟩, Keep.refl _ _⟩ (fun _ _ _ _ h => h.2.tup _ _ n3.at_) ?_ ?_
  · rintro n x σ H4 hn ⟨⟨y7, rfl⟩, k4⟩
    obtain ⟨s, rfl, s0, s1⟩ := hv x (List.mem_of_getElem? hn)
    walk_at "ws_10"
    unfold t6__law_right_1
    walk_at "ws_10"
    refine ⟨c, ops, s, rfl, (lg.keep kk).keep k4, few, ok, s0, s1, fun H5 k5 => ?_⟩
    walk_at "ws_10"
    refine w_iteF rfl ?_
    walk_at "ws_10"
    exact ⟨⟨_, rfl⟩, k4.trans k5⟩
  · rintro σ H4 ⟨⟨y7, rfl⟩, k4⟩
    exact q H4 _ _ _ _ (kk.trans k4.of0) (((pt2.new n3).keep k4).le (by omega))
theorem op_ok {w : Bool} {v b e : Int} (h1 : w = true → 1 ≤ v) (h2 : 0 ≤ v) (h3 : v ≤ 1000000000) (h4 : -1000000000000000 ≤ b) (h5 : b ≤ e) (h6 : e ≤ 1000000000000000) : Op.ok ⟨w, v, b, e⟩ := ⟨h1, h2, h3, h4, h5, h6⟩
/-- the items of a log -/
theorem LogAt.items {H : Hp} {t : Addr} {ops : List Op} (h : LogAt H t ops) : ∃ xs : List V, H t = some (.tup xs) ∧ xs.length = ops.length ∧ ∀ (i : Nat) (o : Op), ops[i]? = some o → ∃ u, xs[i]? = some (.ref u) ∧ H u = some (opT o) := h
theorem one_item {H : Hp} {u : Addr} {o : Op} (h : H u = some (opT o)) : ∀ (i : Nat) (q : Op), [o][i]? = some q → ∃ w, [V.ref u][i]? = some (.ref w) ∧ H w = some (opT q) := fun i q e => by
  match i, e with
  | 0, e => exact ⟨u, rfl, by rw [h, Option.some.inj e]⟩
theorem two_items {H : Hp} {u w : Addr} {o r : Op} (h : H u = some (opT o)) (h2 : H w = some (opT r)) : ∀ (i : Nat) (q : Op), [o, r][i]? = some q → ∃ z, [V.ref u, V.ref w][i]? = some (.ref z) ∧ H z = some (opT q) := fun i q e => by
  match i, e with
  | 0, e => exact ⟨u, rfl, by rw [h, Option.some.inj e]⟩
  | 1, e => exact ⟨w, rfl, by rw [h2, Option.some.inj e]⟩
theorem pure6__law_right {K : PySem.W.Frag} {vs : List V} {H : Hp} {Q : VK} {E : XK} (h : spRight vs H Q E) : t6__law_right K { nx := fun _ H' => Q .non H', rt := Q } (start ["pot", "far", "turn", "book", "at", "far_one", "gap", "slack"] vs) H := by
  obtain ⟨p, N, rfl, pt, hN, q⟩ := h
  show t6__law_right K _ [some (.ref p), none, none, none, none, none, none, none] H
  unfold t6__law_right
  walk_at "ws_10"
  refine o_pow ⟨by decide, by decide +kernel⟩ ?_
  walk_at "ws_10"
  rw [show (10 : Int) ^ (15 : Int).toNat = 1000000000000000 by decide +kernel]
  refine k_R1 (by omega) (by omega) (fun n σ H' => (∃ x2 x3 x4 x5 x6 x7, σ = [some (.ref p), some (.int 1000000000000000), x2, x3, x4, x5, x6, x7]) ∧ Keep (At p) H H' ∧ Pot H' p (N - 300 * n)) ⟨⟨_, _, _, _, _, _, rfl⟩, Keep.refl _ _, pt.le (by omega)⟩ ?_ ?_
  · rintro n σ H1 hn ⟨⟨x2, x3, x4, x5, x6, x7, rfl⟩, k1, pt1⟩
    have hn3 : n < 3 := hn
    walk_at "ws_10"
    unfold t6__law_right_3
    walk_at "ws_10"
    refine ⟨p, 12, 14, N - 300 * n, rfl, pt1, by omega, by omega, by omega, by omega, by simp; omega, fun F1 t1 ops1 kp1 pt2 dd1 lo1 hl1 ho1 => ?_⟩
    walk_at "ws_10"
    refine ⟨p, 12, 2, 5, N - 300 * n - 104, rfl, pt2.le (by simp), by omega, by omega, by omega, by omega, by omega, by omega, by simp; omega, fun F2 t2 ops2 kp2 pt3 dd2 lo2 hl2 ho2 => ?_⟩
    walk_at "ws_10"
    refine k_lst (by simp; decide) fun l F3 n3 => ?_
    walk_at "ws_10"
    have pt4 : Pot F3 p (N - 300 * n - 104 - 104) := (pt3.new n3).le (by simp)
    refine o_any pt4 (by omega) (fun z => pt3.ne n3.no z.symm) (.inl n3.at_) (by simp) (by simp) fun F4 i v ev kp4 pt5 => ?_
    have k14 : Keep (At p) H1 F4 := ((kp1.trans kp2).trans n3.keep).trans kp4
    -- the log that was drawn
    have drawn : ∃ (b : Addr) (ops : List Op), v = .ref b ∧ LogAt F4 b ops ∧ ops.length ≤ 12 ∧ ∀ o ∈ ops, o.ok := by
      have g1 : LogAt F4 t1 ops1 := (((LogAt.of_dd dd1).keep kp2).keep (S := NoS) n3.keep).keep kp4
      have g2 : LogAt F4 t2 ops2 := ((LogAt.of_dd dd2).keep (S := NoS) n3.keep).keep kp4
      match i, ev with
      | 0, ev => exact ⟨t1, ops1, (Option.some.inj ev).symm, g1, by simpa using hl1, lo1.1⟩
      | 1, ev => exact ⟨t2, ops2, (Option.some.inj ev).symm, g2, by rw [hl2]; simp, lo2.1⟩
    obtain ⟨b, ops, rfl, lgb, fewb, okb⟩ := drawn
    walk_at "ws_10"
    refine k_tup (by simp; decide) fun u F5 n5 => ?_
    walk_at "ws_10"
    refine k_tup (by simp; decide) fun w F6 n6 => ?_
    obtain ⟨xs, b1, b2, b3⟩ := (lgb.keep (S := NoS) n5.keep).keep (S := NoS) n6.keep
    refine o_catt b1 n6.at_ (Nat.le_trans (by rw [b2]; simp; omega : _ ≤ 1000) (by decide)) fun c F7 k7 hc => ?_
    have lgc : LogAt F7 c (ops ++ [⟨false, 0, -1000000000000000, 1000000000000000⟩]) := by
      refine LogAt.more hc b2 (fun i o e => ?_) rfl (one_item (k7.tup _ _ (n6.get n5.at_)))
      obtain ⟨u', e1, e2⟩ := b3 i o e
      exact ⟨u', e1, k7.tup _ _ e2⟩
    have okc : ∀ o ∈ ops ++ [⟨false, 0, -1000000000000000, 1000000000000000⟩], Op.ok o := fun o ho => by
      rcases List.mem_append.mp ho with ho | ho
      · exact okb o ho
      · rw [List.mem_singleton.mp ho]
        exact op_ok (fun z => by cases z) (by omega) (by omega) (by omega) (by omega) (by omega)
    have k17 : Keep (At p) H1 F7 := ((k14.trans n5.keep).trans n6.keep).trans k7.of0
    have pt7 : Pot F7 p (N - 300 * n - 104 - 104 - 1) := ((pt5.new n5).new n6).keep k7
    have ending : ∀ (x4 x5 x6 x7 : Option V) (c2 : Addr) (ops2 : List Op) (H9 : Hp) (D0 : Ends), Keep (At p) H1 H9 → Pot H9 p (N - 300 * n - 104 - 104 - 1 - 1) → LogAt H9 c2 ops2 → ops2.length ≤ 15 → 0 < ops2.length → (∀ o ∈ ops2, o.ok) →
        (D0.nx = fun σ H' => (∃ x2 x3 x4 x5 x6 x7, σ = [some (.ref p), some (.int 1000000000000000), x2, x3, x4, x5, x6, x7]) ∧ Keep (At p) H H' ∧ Pot H' p (N - 300 * (n + 1))) →
        t6__law_right_2 K D0 [some (.ref p), some (.int 1000000000000000), some (.int (0 + n)), some (.ref c2), x4, x5, x6, x7] H9 := by
      intro x4 x5 x6 x7 c2 ops2 H9 D0 k9 pt9 lg9 few9 pos9 ok9 eD
      refine right6_2 pt9 (by omega) lg9 (by omega) pos9 ok9 fun H' y4 y5 y6 y7 kz pz => ?_
      rw [eD]
      exact ⟨⟨_, _, _, _, _, _, rfl⟩, k1.trans (k9.trans kz), pz.le (by omega)⟩
    walk_at "ws_10"
    refine o_draw pt7 (by omega) (by omega) (by omega) fun F8 z k8 pt8 z0 z1 => ?_
    walk_at "ws_10"
    have k18 := k17.trans k8
    have lg8 := lgc.keep k8
    rw [show decide (V.int z = V.int 0) = decide (z = 0) by simp]
    refine w_ite (fun e => ?_) (fun e => ?_)
    · walk_at "ws_10"
      refine k_tup (by simp; decide) fun u2 G1 m1 => ?_
      walk_at "ws_10"
      refine o_pow ⟨by decide, by decide +kernel⟩ ?_
      walk_at "ws_10"
      rw [show (10 : Int) ^ (9 : Int).toNat = 1000000000 by decide +kernel]
      refine k_tup (by simp; decide) fun u3 G2 m2 => ?_
      walk_at "ws_10"
      refine k_tup (by simp; decide) fun w2 G3 m3 => ?_
      obtain ⟨ys, c1, c2, c3⟩ := ((lg8.keep (S := NoS) m1.keep).keep (S := NoS) m2.keep).keep (S := NoS) m3.keep
      refine o_catt c1 m3.at_ (Nat.le_trans (by rw [c2, List.length_append]; simp; omega : _ ≤ 1000) (by decide)) fun c' G4 k4 hc' => ?_
      have lgd : LogAt G4 c' ((ops ++ [⟨false, 0, -1000000000000000, 1000000000000000⟩]) ++ [⟨false, 0, 1000000000000000, 1000000000000000⟩, ⟨true, 1000000000, -1000000000000000, -1000000000000000⟩]) := by
        refine LogAt.more hc' c2 (fun i o e => ?_) rfl (two_items (k4.tup _ _ (m3.get (m2.get m1.at_))) (k4.tup _ _ (m3.get m2.at_)))
        obtain ⟨u', e1, e2⟩ := c3 i o e
        exact ⟨u', e1, k4.tup _ _ e2⟩
      walk_at "ws_10"
      refine ending _ _ _ _ c' _ G4 _ ((((k18.trans m1.keep).trans m2.keep).trans m3.keep).trans k4.of0) ((((pt8.new m1).new m2).new m3).keep k4) lgd (by rw [List.length_append, List.length_append]; simp; omega) (by simp) (fun o ho => ?_) rfl
      rcases List.mem_append.mp ho with ho | ho
      · exact okc o ho
      · simp only [List.mem_cons, List.not_mem_nil, or_false] at ho
        rcases ho with rfl | rfl
        · exact op_ok (fun z => by cases z) (by omega) (by omega) (by omega) (by omega) (by omega)
        · exact op_ok (fun z => by omega) (by omega) (by omega) (by omega) (by omega) (by omega)
    · walk_at "ws_10"
      exact ending _ _ _ _ c _ F8 _ k18 pt8 lg8 (by rw [List.length_append]; simp; omega) (by simp) okc rfl
  · rintro σ H1 ⟨⟨x2, x3, x4, x5, x6, x7, rfl⟩, k1, pt1⟩
    walk_at "ws_10"
    exact q H1 k1
end LB

open PySem PySem.Spec PyProof.Rows L2 LB
/-! the tactic: one step of a reading; many -/
local macro_rules | `(tactic| walk_at "w1_11") => `(tactic| first
  | with_reducible refine w_seq ?_ | with_reducible refine w_asg ?_ | with_reducible refine w_drop ?_ | with_reducible refine w_ret ?_ | with_reducible refine w_next ?_
  | with_reducible refine w_ifs ?_ | with_reducible refine w_forR1 ?_ | with_reducible refine w_forR2 ?_ | with_reducible refine w_forL ?_ | with_reducible refine w_forT ?_ | with_reducible refine w_name ?_ | with_reducible refine w_sub ?_ | with_reducible refine w_par ?_
  | with_reducible refine w_var (by with_unfolding_all rfl) ?_ | with_reducible refine w_c ?_ | with_reducible refine w_op ?_ | with_reducible refine w_un ?_
  | with_reducible refine w_test ?_ | with_reducible refine w_tb ?_ | with_reducible refine w_nil ?_ | with_reducible refine w_cons ?_ | with_reducible refine w_cb ?_ | with_reducible refine w_call ?_
  | with_reducible refine w_not ?_ | with_reducible refine w_and ?_ | with_reducible refine w_or ?_ | with_reducible refine w_andV ?_ | with_reducible refine w_orV ?_ | with_reducible refine w_notV ?_
  | with_reducible refine w_ife ?_ | with_reducible refine w_chain ?_ | with_reducible refine w_bm ?_ | with_reducible refine w_sl ?_ | with_reducible refine w_part ?_ | with_reducible refine w_nopart ?_
  | with_reducible refine w_exb ?_ | with_reducible refine w_exi ?_ | with_reducible refine w_ex2 ?_ | with_reducible refine w_ex3 ?_ | with_reducible refine w_lstrg ?_ | with_reducible refine w_rg2 ?_ | with_reducible refine w_rg1 ?_ | with_reducible refine w_exij ?_ | with_reducible refine w_tup ?_ | with_reducible refine w_lst ?_
  | with_reducible refine o_add ?_ | with_reducible refine o_sub ?_ | with_reducible refine o_neg ?_ | with_reducible refine o_lt ?_ | with_reducible refine o_le ?_ | with_reducible refine o_gt ?_ | with_reducible refine o_ge ?_
  | with_reducible refine o_ixL (by assumption) (by decide) (by with_unfolding_all rfl) ?_ | with_reducible refine o_ixT (by assumption) (by decide) (by with_unfolding_all rfl) ?_
  | with_reducible refine o_mod (by first | decide | omega) ?_ | with_reducible refine o_mul (by first | decide | omega) ?_ | with_reducible refine o_fdv (by first | decide | omega) (by first | decide | omega) ?_ | with_reducible refine o_setL (by assumption) (by decide) (by simp) ?_
  | with_reducible refine oo_addi ?_ | with_reducible refine oo_sub ?_ | with_reducible refine oo_neg ?_ | with_reducible refine w_rev ?_ | with_reducible refine w_m0 ?_
  | with_reducible refine w_par3 ?_ | with_reducible refine w_tyl (by assumption) ?_
  | with_reducible refine o_abs ?_ | with_reducible refine o_eqs (by with_unfolding_all rfl) ?_ | with_reducible refine o_nes (by with_unfolding_all rfl) ?_ | with_reducible refine o_max2 ?_ | with_reducible refine o_min2 ?_ | with_reducible refine o_isiX (by assumption) ?_ | with_reducible refine o_lenl (by assumption) ?_ | with_reducible refine o_lent (by assumption) ?_ | with_reducible refine o_int1b ?_)
local macro_rules | `(tactic| walk_at "ws_11") => `(tactic| repeat (first | walk_at "w1_11" | dsimp only [List.set_cons_zero, List.set_cons_succ]))
namespace LB
/-! ### is_value, demand_value -/
def inVals (ops : List Op) : PyData → Bool
  | .int v => decide (v ∈ vals ops)
  | _ => false
def spIsVal : Sp := fun vs H Q _ => ∃ (t : Addr) (ops : List Op) (x : V) (d : PyData) (S : Addr → Prop), vs = [.ref t, x] ∧ LogAt H t ops ∧ ops.length ≤ 200 ∧ DD S H x d ∧ ∀ H', Keep NoS H H' → Q (.bl (inVals ops d)) H'
theorem spIsVal_arity {vs : List V} {H : Hp} {Q : VK} {E : XK} (h : spIsVal vs H Q E) : vs.length = 2 := by obtain ⟨_, _, _, _, _, rfl, _⟩ := h; rfl
theorem o_inIntsV {K : PySem.W.Frag} {H : Hp} {Q : VK} {a : Addr} {ws : List Int} {z : Int} (e : H a = some (.tup (ws.map V.int))) (q : Q (.bl (decide (z ∈ ws))) H) : rInA K (.int z) (.ref a) H Q :=
  .inl ⟨a, _, rfl, .inr (.inl (.inl e)), rfl, flat_ints, by rw [if_neg (by simp), inV_ints]; exact q⟩
def t_is_value (K : PySem.W.Frag) : TS :=
  (tRet (tAndV (tCall spIsInt [] E0 (tCons (tVar 1) tNil)) (tOp (rInA K) (tVar 1) (tCall spValues [] E0 (tCons (tVar 0) tNil)))))
def t7_demand_value (K : PySem.W.Frag) : TS :=
  (tIfS (tNot (tB (tCall spIsVal [] E0 (tCons (tVar 0) (tCons (tVar 1) tNil)))))
    tNever tNext)
theorem pure_is_value {K : PySem.W.Frag} {vs : List V} {H : Hp} {Q : VK} {E : XK} (h : spIsVal vs H Q E) : t_is_value K { nx := fun _ H' => Q .non H', rt := Q } (start ["log", "value"] vs) H := by
  obtain ⟨t, ops, x, d, S, rfl, lg, few, dd, q⟩ := h
  show t_is_value K _ [some (.ref t), some x] H
  unfold t_is_value
  have q0 := q H (Keep.refl _ _)
  walk_at "ws_11"
  refine ⟨x, d, S, rfl, dd, ?_⟩
  walk_at "ws_11"
  cases d with
  | int v =>
    have := dd.intX
    subst this
    refine w_iteT rfl ?_
    walk_at "ws_11"
    refine ⟨t, ops, rfl, lg, few, fun p H1 k1 _ hp => ?_⟩
    exact o_inIntsV hp (q H1 k1)
  | _ => exact q0
theorem pure7_demand_value {K : PySem.W.Frag} {vs : List V} {H : Hp} {Q : VK} {E : XK} (h : spDemand vs H Q E) : t7_demand_value K { nx := fun _ H' => Q .non H', rt := Q } (start ["log", "value"] vs) H := by
  obtain ⟨t, ops, v, rfl, lg, few, hv, q⟩ := h
  show t7_demand_value K _ [some (.ref t), some (.int v)] H
  unfold t7_demand_value
  walk_at "ws_11"
  refine ⟨t, ops, .int v, .int v, NoS, rfl, lg, few, .int v, fun H1 k1 => ?_⟩
  walk_at "ws_11"
  refine w_iteF (by simp [inVals, hv]) ?_
  walk_at "ws_11"
  exact q H1 k1
end LB

open PySem PySem.Spec PyProof.Rows L2 LB
/-! the tactic: one step of a reading; many -/
local macro_rules | `(tactic| walk_at "w1_12") => `(tactic| first
  | with_reducible refine w_seq ?_ | with_reducible refine w_asg ?_ | with_reducible refine w_drop ?_ | with_reducible refine w_ret ?_ | with_reducible refine w_next ?_
  | with_reducible refine w_ifs ?_ | with_reducible refine w_forR1 ?_ | with_reducible refine w_forR2 ?_ | with_reducible refine w_forL ?_ | with_reducible refine w_forT ?_ | with_reducible refine w_name ?_ | with_reducible refine w_sub ?_ | with_reducible refine w_par ?_
  | with_reducible refine w_var (by with_unfolding_all rfl) ?_ | with_reducible refine w_c ?_ | with_reducible refine w_op ?_ | with_reducible refine w_un ?_
  | with_reducible refine w_test ?_ | with_reducible refine w_tb ?_ | with_reducible refine w_nil ?_ | with_reducible refine w_cons ?_ | with_reducible refine w_cb ?_ | with_reducible refine w_call ?_
  | with_reducible refine w_not ?_ | with_reducible refine w_and ?_ | with_reducible refine w_or ?_ | with_reducible refine w_andV ?_ | with_reducible refine w_orV ?_ | with_reducible refine w_notV ?_
  | with_reducible refine w_ife ?_ | with_reducible refine w_chain ?_ | with_reducible refine w_bm ?_ | with_reducible refine w_sl ?_ | with_reducible refine w_part ?_ | with_reducible refine w_nopart ?_
  | with_reducible refine w_exb ?_ | with_reducible refine w_exi ?_ | with_reducible refine w_ex2 ?_ | with_reducible refine w_ex3 ?_ | with_reducible refine w_lstrg ?_ | with_reducible refine w_rg2 ?_ | with_reducible refine w_rg1 ?_ | with_reducible refine w_exij ?_ | with_reducible refine w_tup ?_ | with_reducible refine w_lst ?_
  | with_reducible refine o_add ?_ | with_reducible refine o_sub ?_ | with_reducible refine o_neg ?_ | with_reducible refine o_lt ?_ | with_reducible refine o_le ?_ | with_reducible refine o_gt ?_ | with_reducible refine o_ge ?_
  | with_reducible refine o_ixL (by assumption) (by decide) (by with_unfolding_all rfl) ?_ | with_reducible refine o_ixT (by assumption) (by decide) (by with_unfolding_all rfl) ?_
  | with_reducible refine o_mod (by first | decide | omega) ?_ | with_reducible refine o_mul (by first | decide | omega) ?_ | with_reducible refine o_fdv (by first | decide | omega) (by first | decide | omega) ?_ | with_reducible refine o_setL (by assumption) (by decide) (by simp) ?_
  | with_reducible refine oo_addi ?_ | with_reducible refine oo_sub ?_ | with_reducible refine oo_neg ?_ | with_reducible refine w_rev ?_ | with_reducible refine w_m0 ?_
  | with_reducible refine w_par3 ?_ | with_reducible refine w_tyl (by assumption) ?_
  | with_reducible refine o_abs ?_ | with_reducible refine o_eqs (by with_unfolding_all rfl) ?_ | with_reducible refine o_nes (by with_unfolding_all rfl) ?_ | with_reducible refine o_max2 ?_ | with_reducible refine o_min2 ?_ | with_reducible refine o_isiX (by assumption) ?_ | with_reducible refine o_lenl (by assumption) ?_ | with_reducible refine o_lent (by assumption) ?_ | with_reducible refine o_int1b ?_)
local macro_rules | `(tactic| walk_at "ws_12") => `(tactic| repeat (first | walk_at "w1_12" | dsimp only [List.set_cons_zero, List.set_cons_succ]))
namespace LB
/-! ### writes_of, write_of -/
theorem wr_cons (o : Op) (ops : List Op) : wr (o :: ops) = if o.w = true then o.v :: wr ops else wr ops := by
  unfold wr
  rw [List.filter_cons]
  cases o.w <;> simp
theorem wr_in {ops : List Op} {o : Op} (h : o ∈ ops) (w : o.w = true) : o.v ∈ wr ops := by
  unfold wr
  exact List.mem_map.mpr ⟨o, List.mem_filter.mpr ⟨h, w⟩, rfl⟩
theorem wr_uniq : ∀ {ops : List Op} {i j : Nat} {a b : Op}, (wr ops).Nodup → ops[i]? = some a → a.w = true → ops[j]? = some b → b.w = true → a.v = b.v → i = j
  | [], i, j, a, b, _, h, _, _, _, _ => by simp at h
  | o :: ops, 0, 0, a, b, _, _, _, _, _, _ => rfl
  | o :: ops, 0, j + 1, a, b, nd, h1, w1, h2, w2, e => by
    have h1 : o = a := Option.some.inj h1
    subst h1
    rw [wr_cons, if_pos w1, List.nodup_cons] at nd
    exact absurd (by rw [e]; exact wr_in (List.mem_of_getElem? (by simpa using h2)) w2) nd.1
  | o :: ops, i + 1, 0, a, b, nd, h1, w1, h2, w2, e => by
    have h2 : o = b := Option.some.inj h2
    subst h2
    rw [wr_cons, if_pos w2, List.nodup_cons] at nd
    exact absurd (by rw [← e]; exact wr_in (List.mem_of_getElem? (by simpa using h1)) w1) nd.1
  | o :: ops, i + 1, j + 1, a, b, nd, h1, w1, h2, w2, e => by
    have nd2 : (wr ops).Nodup := by
      rw [wr_cons] at nd
      split at nd
      · exact (List.nodup_cons.mp nd).2
      · exact nd
    have := wr_uniq (i := i) (j := j) nd2 (by simpa using h1) w1 (by simpa using h2) w2 e
    omega
theorem wrIx_is {ops : List Op} {n : Nat} {o : Op} (nd : (wr ops).Nodup) (h : ops[n]? = some o) (w : o.w = true) : wrIx ops o.v = some n := by
  have mem : n ∈ idxOf ops o.v := idx_mem.mpr ⟨o, h, rfl⟩
  cases e : wrIx ops o.v with
  | none =>
    unfold wrIx at e
    have := (List.find?_eq_none.mp e) n mem
    rw [h] at this
    simp [w] at this
  | some k =>
    have hk := List.mem_of_find?_eq_some e
    obtain ⟨q, q1, q2⟩ := idx_mem.mp hk
    have qw := List.find?_some e
    rw [q1] at qw
    exact congrArg some (wr_uniq nd q1 qw h w q2)
theorem wrIx_none {ops : List Op} {v : Int} (h : v ∉ wr ops) : wrIx ops v = none := by
  unfold wrIx
  refine List.find?_eq_none.mpr fun n hn z => h ?_
  obtain ⟨o, e, ev⟩ := idx_mem.mp hn
  rw [e] at z
  rw [← ev]
  exact wr_in (List.mem_of_getElem? e) z
theorem wr_take {ops : List Op} {n : Nat} {o : Op} (h : ops[n]? = some o) : wr (ops.take (n + 1)) = wr (ops.take n) ++ if o.w = true then [o.v] else [] := by
  rw [List.take_add_one, h, wr_append]
  congr 1
  show wr [o] = _
  rw [wr_cons]
  rfl
theorem wr_sub {ops : List Op} (n : Nat) : ∀ v ∈ wr (ops.take n), v ∈ wr ops := fun v h => by
  unfold wr at h ⊢
  obtain ⟨o, ho, rfl⟩ := List.mem_map.mp h
  obtain ⟨h1, h2⟩ := List.mem_filter.mp ho
  exact List.mem_map.mpr ⟨o, List.mem_filter.mpr ⟨List.mem_of_mem_take h1, h2⟩, rfl⟩
def spWritesOf : Sp := fun vs H Q _ => ∃ (t : Addr) (ops : List Op), vs = [.ref t] ∧ LogAt H t ops ∧ ops.length ≤ 200 ∧ (wr ops).Nodup ∧ ∀ (p : Addr) (H' : Hp), Keep NoS H H' → H p = none → H' p = some (.dK (mkD (wr ops) fun v => optN (wrIx ops v))) → Q (.ref p) H'
theorem spWritesOf_arity {vs : List V} {H : Hp} {Q : VK} {E : XK} (h : spWritesOf vs H Q E) : vs.length = 1 := by obtain ⟨_, _, rfl, _⟩ := h; rfl
def spWriteOf7 : Sp := fun vs H Q _ => ∃ (t : Addr) (ops : List Op) (v : Int), vs = [.ref t, .int v] ∧ LogAt H t ops ∧ ops.length ≤ 200 ∧ v ∈ vals ops ∧ (wr ops).Nodup ∧ ∀ H', Keep NoS H H' → Q (optN (wrIx ops v)) H'
theorem spWriteOf7_arity {vs : List V} {H : Hp} {Q : VK} {E : XK} (h : spWriteOf7 vs H Q E) : vs.length = 2 := by obtain ⟨_, _, _, rfl, _⟩ := h; rfl

def t_writes_of (K : PySem.W.Frag) : TS :=
  (tRet (tDc (iEnA K (tCons (tVar 0) tNil)) (gTup K 2 (gCons (gName 1) (gCons (gName 2) gNil))) (tTest (tOp (rEqA K) (tOp (rIx K) (tVar 2) (tC (V.int 0))) (tC (V.str "write")))) (tOp (rIx K) (tVar 2) (tC (V.int 1))) (tVar 1) [1, 2]))

def t7_write_of (K : PySem.W.Frag) : TS :=
  (tSeq (tDrop (tCall spDemand [] E0 (tCons (tVar 0) (tCons (tVar 1) tNil))))
    (tRet (tDGet2 (tCall spWritesOf [] E0 (tCons (tVar 0) tNil)) (tVar 1) (tC V.non))))

theorem pure_writes_of {K : PySem.W.Frag} {vs : List V} {H : Hp} {Q : VK} {E : XK} (h : spWritesOf vs H Q E) : t_writes_of K { nx := fun _ H' => Q .non H', rt := Q } (start ["log", "index", "operation"] vs) H := by
  obtain ⟨t, ops, rfl, lg, few, nd, q⟩ := h
  show t_writes_of K _ [some (.ref t), none, none] H
  unfold t_writes_of
  walk_at "ws_12"
  obtain ⟨xs, hx, hl, hi⟩ := id lg
  refine .inr (w_cons (w_var (by with_unfolding_all rfl) (w_nil ⟨t, xs, rfl, .inl (.inl hx), fun D hD => ?_⟩)))
  refine dc_it walk_enT (fun n H' => Keep NoS H H' ∧ H' D = some (.dK (mkD (wr (ops.take n)) fun v => optN (wrIx ops v)))) ⟨Keep.new hD, upd_same⟩ (fun n H' _ h => .inl (.inl (h.1.tup _ _ hx))) ?_ ?_
  · rintro n v H1 H2 hn ⟨k1, hb⟩ ⟨T, x, y, rfl, hT, rfl, e1, e2⟩
    cases e1
    have e2 : xs[n]? = some y := e2
    have ln : n < ops.length := by omega
    have ho : ops[n]? = some ops[n] := List.getElem?_eq_getElem ln
    obtain ⟨u, u1, u2⟩ := hi n _ ho
    rw [e2] at u1
    cases u1
    have nw : New H1 (upd H1 T (.tup [.int (n : Nat), .ref u])) T (.tup [.int (n : Nat), .ref u]) := .mk' hT
    generalize upd H1 T (.tup [V.int (n : Nat), V.ref u]) = H2 at nw
    have k2 : Keep NoS H H2 := k1.trans nw.keep
    have hu := k2.tup _ _ u2
    have hb2 := nw.get hb
    refine w_gt2 nw.at_ ⟨rfl, ?_⟩
    walk_at "ws_12"
    rw [kind_eq]
    refine w_iteb (fun c => ?_) (fun c => ?_)
    · walk_at "ws_12"
      have sp : wr ops = wr (ops.take n) ++ wr (ops.drop n) := by rw [← wr_append, List.take_append_drop]
      have inD : ops[n].v ∈ wr (ops.drop n) := wr_in (List.mem_iff_getElem?.mpr ⟨0, by rw [List.getElem?_drop]; exact ho⟩) c
      have nin : ops[n].v ∉ wr (ops.take n) := fun z => by
        rw [sp] at nd
        exact (List.nodup_append.mp nd).2.2 _ z _ inD rfl
      refine ⟨_, .inl ops[n].v, rfl, hb2, ?_, k2.putO (o := .lst []) hD, ?_⟩
      · rw [mkD_len]
        have a1 : (wr (ops.take n)).length ≤ (ops.take n).length := by
          unfold wr
          rw [List.length_map]
          exact List.length_filter_le _ _
        rw [List.length_take] at a1
        exact Nat.lt_of_le_of_lt (by omega : _ ≤ 1000) (by decide)
      · rw [upd_same, mkD_put, if_neg nin, wr_take ho, if_pos c]
        congr 1
        refine congrArg _ (mkD_congr fun u _ => ?_)
        by_cases z : u = ops[n].v
        · rw [if_pos z, z, wrIx_is nd ho c]
          rfl
        · rw [if_neg z]
    · refine ⟨k2, ?_⟩
      rw [wr_take ho, c]
      simpa using hb2
  · rintro H1 ⟨k1, hb⟩
    rw [hl, List.take_length] at hb
    exact q D H1 k1 hD hb
theorem pure7_write_of {K : PySem.W.Frag} {vs : List V} {H : Hp} {Q : VK} {E : XK} (h : spWriteOf7 vs H Q E) : t7_write_of K { nx := fun _ H' => Q .non H', rt := Q } (start ["log", "value"] vs) H := by
  obtain ⟨t, ops, v, rfl, lg, few, hv, nd, q⟩ := h
  show t7_write_of K _ [some (.ref t), some (.int v)] H
  unfold t7_write_of
  walk_at "ws_12"
  refine ⟨t, ops, v, rfl, lg, few, hv, fun H1 k1 => ?_⟩
  walk_at "ws_12"
  have lg1 := lg.keep k1
  refine w_call (w_cons (w_var (by with_unfolding_all rfl) (w_nil ?_)))
  refine ⟨t, ops, rfl, lg1, few, nd, fun p H2 k2 _ hp => ?_⟩
  refine ⟨p, rfl, .inl ⟨_, .inl hp⟩, ?_⟩
  walk_at "ws_12"
  refine ⟨_, mkD_get hp, ?_⟩
  have q2 := q H2 (k1.trans k2)
  by_cases c : v ∈ wr ops
  · rw [if_pos c]
    exact q2
  · rw [if_neg c]
    rw [wrIx_none c] at q2
    exact q2
end LB

open PySem PySem.Spec PyProof.Rows L2 LB
/-! the tactic: one step of a reading; many -/
local macro_rules | `(tactic| walk_at "w1_13") => `(tactic| first
  | with_reducible refine w_seq ?_ | with_reducible refine w_asg ?_ | with_reducible refine w_drop ?_ | with_reducible refine w_ret ?_ | with_reducible refine w_next ?_
  | with_reducible refine w_ifs ?_ | with_reducible refine w_forR1 ?_ | with_reducible refine w_forR2 ?_ | with_reducible refine w_forL ?_ | with_reducible refine w_forT ?_ | with_reducible refine w_name ?_ | with_reducible refine w_sub ?_ | with_reducible refine w_par ?_
  | with_reducible refine w_var (by with_unfolding_all rfl) ?_ | with_reducible refine w_c ?_ | with_reducible refine w_op ?_ | with_reducible refine w_un ?_
  | with_reducible refine w_test ?_ | with_reducible refine w_tb ?_ | with_reducible refine w_nil ?_ | with_reducible refine w_cons ?_ | with_reducible refine w_cb ?_ | with_reducible refine w_call ?_
  | with_reducible refine w_not ?_ | with_reducible refine w_and ?_ | with_reducible refine w_or ?_ | with_reducible refine w_andV ?_ | with_reducible refine w_orV ?_ | with_reducible refine w_notV ?_
  | with_reducible refine w_ife ?_ | with_reducible refine w_chain ?_ | with_reducible refine w_bm ?_ | with_reducible refine w_sl ?_ | with_reducible refine w_part ?_ | with_reducible refine w_nopart ?_
  | with_reducible refine w_exb ?_ | with_reducible refine w_exi ?_ | with_reducible refine w_ex2 ?_ | with_reducible refine w_ex3 ?_ | with_reducible refine w_lstrg ?_ | with_reducible refine w_rg2 ?_ | with_reducible refine w_rg1 ?_ | with_reducible refine w_exij ?_ | with_reducible refine w_tup ?_ | with_reducible refine w_lst ?_
  | with_reducible refine o_add ?_ | with_reducible refine o_sub ?_ | with_reducible refine o_neg ?_ | with_reducible refine o_lt ?_ | with_reducible refine o_le ?_ | with_reducible refine o_gt ?_ | with_reducible refine o_ge ?_
  | with_reducible refine o_ixL (by assumption) (by decide) (by with_unfolding_all rfl) ?_ | with_reducible refine o_ixT (by assumption) (by decide) (by with_unfolding_all rfl) ?_
  | with_reducible refine o_mod (by first | decide | omega) ?_ | with_reducible refine o_mul (by first | decide | omega) ?_ | with_reducible refine o_fdv (by first | decide | omega) (by first | decide | omega) ?_ | with_reducible refine o_setL (by assumption) (by decide) (by simp) ?_
  | with_reducible refine oo_addi ?_ | with_reducible refine oo_sub ?_ | with_reducible refine oo_neg ?_ | with_reducible refine w_rev ?_ | with_reducible refine w_m0 ?_
  | with_reducible refine w_par3 ?_ | with_reducible refine w_tyl (by assumption) ?_
  | with_reducible refine o_abs ?_ | with_reducible refine o_eqs (by with_unfolding_all rfl) ?_ | with_reducible refine o_nes (by with_unfolding_all rfl) ?_ | with_reducible refine o_max2 ?_ | with_reducible refine o_min2 ?_ | with_reducible refine o_isiX (by assumption) ?_ | with_reducible refine o_lenl (by assumption) ?_ | with_reducible refine o_lent (by assumption) ?_ | with_reducible refine o_int1b ?_)
local macro_rules | `(tactic| walk_at "ws_13") => `(tactic| repeat (first | walk_at "w1_13" | dsimp only [List.set_cons_zero, List.set_cons_succ]))
namespace LB
/-! ### k04: the law's own defs -/
theorem ints_data {S : Addr → Prop} {H : Hp} : ∀ {ns : List Int}, DDs S H (ns.map V.int) (ns.map PyData.int)
  | [] => .nil
  | n :: ns => .cons (.int n) ints_data
theorem ints_wt : ∀ {ns : List Int}, (∀ n ∈ ns, n.natAbs ≤ 10 ^ 30) → PyData.weightAll (ns.map PyData.int) ≤ ns.length * 102
  | [], _ => by simp [PyData.weightAll]
  | n :: ns, h => by
    have h1 := (nice_int (n := 0) (k := 0) (w := 101) (i := n) (by have := h n List.mem_cons_self; omega) (by omega) (by omega)).wt
    have h2 := ints_wt (ns := ns) fun m hm => h m (List.mem_cons_of_mem _ hm)
    simp only [List.map_cons, PyData.weightAll, List.length_cons]
    omega
theorem ints_ok {ns : List Int} (h : ∀ n ∈ ns, n.natAbs ≤ 10 ^ 30) : (∀ d ∈ ns.map PyData.int, okD 0 d) ∧ ∀ d ∈ ns.map PyData.int, d.depth ≤ 0 := by
  refine ⟨fun d hd => ?_, fun d hd => ?_⟩ <;> obtain ⟨n, hn, rfl⟩ := List.mem_map.mp hd
  · simp only [okD]
    have := h n hn
    omega
  · simp only [PyData.depth]
    omega
theorem intsT_nice {ns : List Int} (h : ∀ n ∈ ns, n.natAbs ≤ 10 ^ 30) (few : ns.length ≤ 200) : Nice 0 1 20400 (.tuple (ns.map PyData.int)) :=
  nice_tup (ints_ok h).1 (ints_ok h).2 (by have := ints_wt h; omega)
theorem o_reprT {H : Hp} {Q : VK} {a : Addr} {ns : List Int} (e : H a = some (.tup (ns.map V.int))) (h : ∀ n ∈ ns, n.natAbs ≤ 10 ^ 30) (few : ns.length ≤ 200) (q : Q (.str (PyData.tuple (ns.map PyData.int)).shown) H) : rRepr [.ref a] H Q :=
  o_repr (S := NoS) (.tup e ints_data) (intsT_nice h few) (by omega) (by omega) (by omega) q
/-- two tuples of ints in a list -/
theorem o_repr2T {H : Hp} {Q : VK} {l a b : Addr} {ns : List Int} (e : H l = some (.lst [.ref a, .ref b])) (ea : H a = some (.tup (ns.map V.int))) (eb : H b = some (.tup (ns.map V.int))) (h : ∀ n ∈ ns, n.natAbs ≤ 10 ^ 30) (few : ns.length ≤ 200)
    (q : Q (.str (PyData.list [.tuple (ns.map PyData.int), .tuple (ns.map PyData.int)]).shown) H) : rRepr [.ref l] H Q := by
  have nc := intsT_nice h few
  refine o_repr (S := NoS) (n := 0) (k := 2) (w := 40802) (.lst id e (.cons (.tup ea ints_data) (.cons (.tup eb ints_data) .nil))) (nice_list (fun d hd => ?_) (fun d hd => ?_) ?_) (by omega) (by omega) (by omega) q
  · simp only [List.mem_cons, List.not_mem_nil, or_false] at hd
    rcases hd with rfl | rfl <;> exact nc.ok
  · simp only [List.mem_cons, List.not_mem_nil, or_false] at hd
    rcases hd with rfl | rfl <;> exact nc.dp
  · have := nc.wt
    simp only [PyData.weightAll]
    omega
/-- None or an int -/
def flD : V → PyData
  | .int i => .int i
  | _ => .none
def Fl (v : V) : Prop := v = .non ∨ ∃ i : Int, v = .int i ∧ i.natAbs ≤ 10 ^ 30
theorem Fl.dd {S : Addr → Prop} {H : Hp} {v : V} (h : Fl v) : DD S H v (flD v) := by
  rcases h with rfl | ⟨i, rfl, _⟩
  · exact .non
  · exact .int i
theorem Fl.nice {v : V} (h : Fl v) : Nice 0 0 101 (flD v) := by
  rcases h with rfl | ⟨i, rfl, hi⟩
  · exact nice_non
  · exact nice_int (by omega) (by omega) (by omega)
theorem o_repr3 {H : Hp} {Q : VK} {l : Addr} {a b c : V} (e : H l = some (.lst [a, b, c])) (ha : Fl a) (hb : Fl b) (hc : Fl c) (q : Q (.str (PyData.list [flD a, flD b, flD c]).shown) H) : rRepr [.ref l] H Q := by
  refine o_repr (S := NoS) (n := 0) (k := 1) (w := 306) (.lst id e (.cons ha.dd (.cons hb.dd (.cons hc.dd .nil)))) (nice_list (fun d hd => ?_) (fun d hd => ?_) ?_) (by omega) (by omega) (by omega) q
  · simp only [List.mem_cons, List.not_mem_nil, or_false] at hd
    rcases hd with rfl | rfl | rfl
    · exact ha.nice.ok
    · exact hb.nice.ok
    · exact hc.nice.ok
  · simp only [List.mem_cons, List.not_mem_nil, or_false] at hd
    rcases hd with rfl | rfl | rfl
    · exact ha.nice.dp
    · exact hb.nice.dp
    · exact hc.nice.dp
  · have h1 := ha.nice.wt
    have h2 := hb.nice.wt
    have h3 := hc.nice.wt
    simp only [PyData.weightAll]
    omega
theorem idx_lt {ops : List Op} {v : Int} {n : Nat} (h : n ∈ idxOf ops v) : n < ops.length := by
  obtain ⟨o, h1, _⟩ := idx_mem.mp h
  by_cases z : n < ops.length
  · exact z
  · rw [List.getElem?_eq_none (by omega)] at h1; cases h1
theorem fl_wr {ops : List Op} {v : Int} (few : ops.length ≤ 200) : Fl (optN (wrIx ops v)) := by
  cases e : wrIx ops v with
  | none => exact .inl rfl
  | some n =>
    have h1 := idx_lt (List.mem_of_find?_eq_some e)
    have big : (200 : Nat) ≤ 10 ^ 30 := by decide +kernel
    exact .inr ⟨_, rfl, by omega⟩
theorem big15 {i : Int} (h1 : -1000000000000000 ≤ i) (h2 : i ≤ 1000000000000000) : i.natAbs ≤ 10 ^ 30 := by
  have : (1000000000000000 : Nat) ≤ 10 ^ 30 := by decide +kernel
  omega
theorem fl_sp {ops : List Op} {v : Int} (ok : ∀ o ∈ ops, o.ok) (hv : v ∈ vals ops) : Fl (spanF ops v) ∧ Fl (.int (lastB ops v)) := by
  have h := vals_ok ok hv
  refine ⟨?_, .inr ⟨_, rfl, big15 h.2.2.1 h.2.2.2⟩⟩
  unfold spanF
  split
  · exact .inl rfl
  · exact .inr ⟨_, rfl, big15 h.2.1.1 h.2.1.2⟩
theorem vals_big {ops : List Op} (ok : ∀ o ∈ ops, o.ok) : ∀ v ∈ vals ops, v.natAbs ≤ 10 ^ 30 := fun v hv => by
  obtain ⟨i, o, h1, h2⟩ := vals_at.mp hv
  have h := ok o (List.mem_of_getElem? h1)
  unfold Op.ok at h
  exact big15 (by omega) (by omega)
def spLogR4 : Sp := fun vs H Q _ => ∃ (t : Addr) (ops : List Op), vs = [.ref t] ∧ LogAt H t ops ∧ ops.length ≤ 200 ∧ (∀ o ∈ ops, o.ok) ∧ ∀ H', Keep NoS H H' → Q (.bl true) H'
theorem spLogR4_arity {vs : List V} {H : Hp} {Q : VK} {E : XK} (h : spLogR4 vs H Q E) : vs.length = 1 := by obtain ⟨_, _, rfl, _⟩ := h; rfl

def t4__law_log_right_1 (K : PySem.W.Frag) : TS :=
  (tSeq (tIfS (tTest (tOp (rNeA K) (tCB rRepr (tCons (tVar 8) tNil)) (tCB rRepr (tCons (tVar 9) tNil))))
    (tRet (tC (V.bl false))) tNext)
    (tSeq (tAsg (tLst (tCons (tCallW spWriteOf (fun {α : Type} (us ws : List α) => [(ws.drop 1).head?, (ws.drop 0).head?].filterMap id) 2 E0 (tCons (tVar 3) (tCons (tVar 0) tNil))) (tCons (tCallW spFirstEnd (fun {α : Type} (us ws : List α) => [(ws.drop 1).head?, (ws.drop 0).head?].filterMap id) 2 E0 (tCons (tVar 3) (tCons (tVar 0) tNil))) (tCons (tCallW spLastBegin (fun {α : Type} (us ws : List α) => [(ws.drop 1).head?, (ws.drop 0).head?].filterMap id) 2 E0 (tCons (tVar 3) (tCons (tVar 0) tNil))) tNil)))) (gName 10))
    (tIfS (tTest (tOp (rNeA K) (tCB rRepr (tCons (tVar 10) tNil)) (tCB rRepr (tCons (tVar 9) tNil))))
    (tRet (tC (V.bl false))) tNext)))

def t4__law_log_right_2 (K : PySem.W.Frag) : TS :=
  (tSeq (tAsg (tLc (iEnA K (tCons (tVar 0) tNil)) (gTup K 2 (gCons (gName 5) (gCons (gName 6) gNil))) (tTest (tOp (rEqA K) (tOp (rIx K) (tVar 6) (tC (V.int 1))) (tVar 3))) (tVar 5) [5, 6]) (gName 4))
    (tSeq (tAsg (tLc (iSeq K (tVar 4)) (gName 5) (tTest (tOp (rEqA K) (tOp (rIx K) (tOp (rIx K) (tVar 0) (tVar 5)) (tC (V.int 0))) (tC (V.str "write")))) (tVar 5) [5]) (gName 7))
    (tSeq (tIfS (tTest (tOp (rNeA K) (tCB rRepr (tCons (tLst (tCons (tCall spOpsOf [] E0 (tCons (tVar 0) (tCons (tVar 3) tNil))) (tCons (tCallW spOpsOf (fun {α : Type} (us ws : List α) => [(ws.drop 1).head?, (ws.drop 0).head?].filterMap id) 2 E0 (tCons (tVar 3) (tCons (tVar 0) tNil))) tNil))) tNil)) (tCB rRepr (tCons (tOp (rMulA K) (tLst (tCons (tCB (rTupOf K) (tCons (tVar 4) tNil)) tNil)) (tC (V.int 2))) tNil))))
    (tRet (tC (V.bl false))) tNext)
    (tSeq (tAsg (tLst (tCons (tCall spWriteOf [] E0 (tCons (tVar 0) (tCons (tVar 3) tNil))) (tCons (tCall spFirstEnd [] E0 (tCons (tVar 0) (tCons (tVar 3) tNil))) (tCons (tCall spLastBegin [] E0 (tCons (tVar 0) (tCons (tVar 3) tNil))) tNil)))) (gName 8))
    (tSeq (tAsg (tLst (tCons (tOp (rIx K) (tOp (rAddA K) (tVar 7) (tLst (tCons (tC V.non) tNil))) (tC (V.int 0))) (tCons (tCB (rMin K) (tCons (tLc (iSeq K (tVar 4)) (gName 5) tYes (tOp (rIx K) (tOp (rIx K) (tVar 0) (tVar 5)) (tC (V.int 3))) [5]) tNil)) (tCons (tCB (rMax K) (tCons (tLc (iSeq K (tVar 4)) (gName 5) tYes (tOp (rIx K) (tOp (rIx K) (tVar 0) (tVar 5)) (tC (V.int 2))) [5]) tNil)) tNil)))) (gName 9))
    (tSeq (tIfS (tTest (tOp (rEqA K) (tVar 3) (tC (V.int 0))))
    (tAsg (tC V.non) (gSub (tVar 9) (tC (V.int 1)) rSetL)) tNext)
    (t4__law_log_right_1 K)))))))

def t4__law_log_right (K : PySem.W.Frag) : TS :=
  (tSeq (tPar 1 2 (tCons (tCB rRepr (tCons (tVar 0) tNil)) (tCons (tCall spWorths [] E0 (tCons (tVar 0) tNil)) tNil)))
    (tSeq (tIfS (tOr (tTest (tOp (rNeA K) (tCB rRepr (tCons (tCall spValues [] E0 (tCons (tVar 0) tNil)) tNil)) (tCB rRepr (tCons (tCB (rTupOf K) (tCons (tVar 2) tNil)) tNil)))) (tTest (tOp (rNeA K) (tCB rRepr (tCons (tCallW spValues (fun {α : Type} (us ws : List α) => [(ws.drop 0).head?].filterMap id) 1 E0 (tCons (tVar 0) tNil)) tNil)) (tCB rRepr (tCons (tCB (rTupOf K) (tCons (tVar 2) tNil)) tNil)))))
    (tRet (tC (V.bl false))) tNext)
    (tSeq (tFor (iSeq K (tVar 2)) (gName 3)
    (t4__law_log_right_2 K))
    (tRet (tOp (rEqA K) (tCB rRepr (tCons (tVar 0) tNil)) (tVar 1))))))

def t4__law_right (K : PySem.W.Frag) : TS :=
  (tSeq (tAsg (tLst (tCons (tTup tNil) (tCons (tCall spWild [] E0 (tCons (tVar 0) (tCons (tC (V.int 20)) (tCons (tC (V.int 12)) tNil)))) (tCons (tCall spWild [] E0 (tCons (tVar 0) (tCons (tC (V.int 6)) (tCons (tC (V.int 4)) tNil)))) (tCons (tCall spTrue [] E0 (tCons (tVar 0) (tCons (tC (V.int 20)) (tCons (tC (V.int 4)) (tCons (tC (V.int 6)) tNil))))) tNil))))) (gName 1))
    (tSeq (tDrop (tBM K "list" rAppend (tVar 1) (tCons (tCB (rTupOf K) (tCons (tLc (iRng1 (tCons (tC (V.int 200)) tNil)) (gName 2) tYes (tTup (tCons (tC (V.str "read")) (tCons (tCall spDraw [] E0 (tCons (tVar 0) (tCons (tC (V.int 3)) tNil))) (tCons (tVar 2) (tCons (tOp (rAddA K) (tVar 2) (tCall spDraw [] E0 (tCons (tVar 0) (tCons (tC (V.int 9)) tNil)))) tNil))))) [2]) tNil)) tNil)))
    (tSeq (tAsg (tCB (rTupOf K) (tCons (tLc (iRng1 (tCons (tC (V.int 200)) tNil)) (gName 2) tYes (tTup (tCons (tC (V.str "write")) (tCons (tOp rSubI (tOp rPowI (tC (V.int 10)) (tC (V.int 9))) (tVar 2)) (tCons (tUn rNegI (tVar 2)) (tCons (tOp rSubI (tOp rPowI (tC (V.int 10)) (tC (V.int 15))) (tVar 2)) tNil))))) [2]) tNil)) (gName 3))
    (tSeq (tIfS (tOr (tTest (tOp (rNeA K) (tCall spValues [] E0 (tCons (tVar 3) tNil)) (tCB (rTupOf K) (tCons (tCB (rSortedI K) (tCons (tLc (iSeq K (tVar 3)) (gName 4) tYes (tOp (rIx K) (tVar 4) (tC (V.int 1))) [4]) tNil)) tNil)))) (tTest (tOp (rNeA K) (tCall spWriteOf [] E0 (tCons (tVar 3) (tCons (tOp rSubI (tOp rPowI (tC (V.int 10)) (tC (V.int 9))) (tC (V.int 199))) tNil))) (tC (V.int 199)))))
    (tRet (tC (V.bl false))) tNext)
    (tRet (tCB (rAll K) (tCons (tLc (iSeq K (tOp (rAddA K) (tVar 1) (tLst (tCons (tSl (rSlAny K) (tVar 3) tNoPart (tPart (tC (V.int 40)))) tNil)))) (gName 5) tYes (tCall spLogR4 [] E0 (tCons (tVar 5) tNil)) [5]) tNil)))))))

/-- [te for slot i in a list of places if tt], the places told by ns -/
theorem lc_nats {K : PySem.W.Frag} {σ : LB.St} {H : Hp} {Q : VK} {a : Addr} {ns : List Nat} {s i : Nat} {tt : TT} {te : TE} {p : Nat → Bool} {key : Nat → V} (es : σ[s]? = some (some (.ref a))) (ha : H a = some (.lst (ns.map fun n => V.int (n : Nat)))) (few : ns.length ≤ 200)
    (ht : ∀ (n : Nat) (H2 : Hp) (Qb : Bool → Hp → Prop), n ∈ ns → Keep NoS H H2 → Qb (p n) H2 → tt ((σ.set i none).set i (some (.int (n : Nat)))) H2 Qb)
    (he : ∀ (n : Nat) (H2 : Hp) (Q2 : VK), n ∈ ns → Keep NoS H H2 → Q2 (key n) H2 → te ((σ.set i none).set i (some (.int (n : Nat)))) H2 Q2)
    (q : ∀ (b : Addr) (H' : Hp), Keep NoS H H' → H b = none → H' b = some (.lst ((ns.filter p).map key)) → Q (.ref b) H') : tLc (iSeq K (tVar s)) (gName i) tt te [i] σ H Q := by
  refine .inl (w_var es ⟨a, rfl, ⟨_, .inl (.inl ha)⟩, fun D hD => ?_⟩)
  refine lc_list (xs := ns.map fun n => V.int (n : Nat)) (fun n H' => Keep NoS H H' ∧ H' D = some (.lst (((ns.take n).filter p).map key))) ⟨Keep.new hD, upd_same⟩ (fun n H' _ h => .inl (.inl (h.1.all _ _ id ha))) ?_ ?_
  · rintro n x H1 hn ⟨k1, hb⟩
    rw [List.getElem?_map] at hn
    obtain ⟨m, hm, rfl⟩ := Option.map_eq_some_iff.mp hn
    have mem := List.mem_of_getElem? hm
    refine ⟨by show ((σ.set i none).set i _).set i none = σ.set i none; rw [List.set_set, List.set_set], ht m H1 _ mem k1 ?_⟩
    have et : (ns.take (n + 1)).filter p = (ns.take n).filter p ++ (if p m = true then [m] else []) := by
      rw [List.take_add_one, hm, List.filter_append]
      cases c : p m <;> simp [c]
    refine w_iteb (fun c => ?_) (fun c => ?_)
    · refine he m H1 _ mem k1 ⟨_, hb, ?_, k1.put0 hD hb, ?_⟩
      · rw [List.length_map]
        have := List.length_filter_le p (ns.take n)
        rw [List.length_take] at this
        exact Nat.lt_of_le_of_lt (by omega : _ ≤ 1000) (by decide)
      · rw [et, if_pos c, List.map_append]
        exact upd_same
    · refine ⟨k1, ?_⟩
      rw [et, c]
      simpa using hb
  · rintro H1 ⟨k1, hb⟩
    rw [List.length_map, List.take_length] at hb
    exact q D H1 k1 hD hb
theorem filter_all {ns : List Nat} : ns.filter (fun _ => true) = ns := by simp
theorem min_idx {ops : List Op} {v : Int} (hv : v ∈ vals ops) {ms : List Int} (e : ms = (idxOf ops v).map fun n => match ops[n]? with | some o => o.e | none => 0) {m : Int} (hm : m ∈ ms) (hl : ∀ y ∈ ms, m ≤ y) : m = firstE ops v := by
  subst e
  obtain ⟨q, b⟩ := bE_best hv
  have h1 := hl (firstE ops v) (List.mem_map.mpr ⟨bE ops v, idx_mem.mpr ⟨q, b.at_, b.val⟩, by rw [b.at_, firstE_is b]⟩)
  obtain ⟨n, hn, rfl⟩ := List.mem_map.mp hm
  obtain ⟨o, ho, eo⟩ := idx_mem.mp hn
  rw [ho] at h1 ⊢
  have h2 := firstE_le ho eo
  simp only at h1 ⊢
  omega
theorem max_idx {ops : List Op} {v : Int} (hv : v ∈ vals ops) {ms : List Int} (e : ms = (idxOf ops v).map fun n => match ops[n]? with | some o => o.b | none => 0) {m : Int} (hm : m ∈ ms) (hl : ∀ y ∈ ms, y ≤ m) : m = lastB ops v := by
  subst e
  obtain ⟨q, b⟩ := bB_best hv
  have h1 := hl (lastB ops v) (List.mem_map.mpr ⟨bB ops v, idx_mem.mpr ⟨q, b.at_, b.val⟩, by rw [b.at_, lastB_is b]⟩)
  obtain ⟨n, hn, rfl⟩ := List.mem_map.mp hm
  obtain ⟨o, ho, eo⟩ := idx_mem.mp hn
  rw [ho] at h1 ⊢
  have h2 := lastB_ge ho eo
  simp only at h1 ⊢
  omega
theorem idx_pos {ops : List Op} {v : Int} (hv : v ∈ vals ops) : 0 < (idxOf ops v).length := by
  obtain ⟨i, o, h1, h2⟩ := vals_at.mp hv
  exact List.length_pos_of_mem (idx_mem.mpr ⟨o, h1, h2⟩)
theorem filt_head {p : Nat → Bool} {l : List Nat} : ((l.filter p).map (fun n => V.int (n : Nat)) ++ [V.non])[0]? = some (optN (l.find? p)) := by
  rw [← List.head?_filter]
  cases l.filter p with
  | nil => rfl
  | cons a r => rfl
/-- what is told and what is plain: the same -/
theorem log4_1 {K : PySem.W.Frag} {D : Ends} {t l8 l9 : Addr} {ops : List Op} {v : Int} {x1 x2 x4 x5 x6 x7 x10 : Option V} {H : Hp} (lg : LogAt H t ops) (few : ops.length ≤ 200) (ok : ∀ o ∈ ops, o.ok) (hv : v ∈ vals ops)
    (h8 : H l8 = some (.lst [optN (wrIx ops v), spanF ops v, .int (lastB ops v)])) (h9 : H l9 = some (.lst [optN (wrIx ops v), spanF ops v, .int (lastB ops v)]))
    (q : ∀ (H' : Hp) (y : Option V), Keep NoS H H' → D.nx [some (.ref t), x1, x2, some (.int v), x4, x5, x6, x7, some (.ref l8), some (.ref l9), y] H') :
    t4__law_log_right_1 K D [some (.ref t), x1, x2, some (.int v), x4, x5, x6, x7, some (.ref l8), some (.ref l9), x10] H := by
  have f1 := fl_wr (v := v) few
  have f2 := (fl_sp ok hv).1
  have f3 := (fl_sp ok hv).2
  unfold t4__law_log_right_1
  walk_at "ws_13"
  refine o_repr3 h8 f1 f2 f3 ?_
  walk_at "ws_13"
  refine o_repr3 h9 f1 f2 f3 ?_
  walk_at "ws_13"
  refine w_iteF (by simp) ?_
  walk_at "ws_13"
  refine w_callW ?_
  walk_at "ws_13"
  refine ⟨rfl, t, ops, v, rfl, lg, few, hv, fun H1 k1 => ?_⟩
  walk_at "ws_13"
  refine w_callW ?_
  walk_at "ws_13"
  refine ⟨rfl, t, ops, v, rfl, lg.keep k1, few, hv, fun H2 k2 => ?_⟩
  walk_at "ws_13"
  refine w_callW ?_
  walk_at "ws_13"
  refine ⟨rfl, t, ops, v, rfl, (lg.keep k1).keep k2, few, hv, fun H3 k3 => ?_⟩
  walk_at "ws_13"
  refine k_lst (by simp; decide) fun l H4 n4 => ?_
  walk_at "ws_13"
  refine o_repr3 n4.at_ f1 f2 f3 ?_
  walk_at "ws_13"
  have kk := ((k1.trans k2).trans k3).trans n4.keep
  refine o_repr3 (kk.all _ _ id h9) f1 f2 f3 ?_
  walk_at "ws_13"
  refine w_iteF (by simp) ?_
  walk_at "ws_13"
  exact q H4 _ kk
theorem pure4__law_log_right {K : PySem.W.Frag} {vs : List V} {H : Hp} {Q : VK} {E : XK} (h : spLogR4 vs H Q E) : t4__law_log_right K { nx := fun _ H' => Q .non H', rt := Q } (start ["book", "kept", "due", "worth", "own", "at", "one", "writes", "told", "plain", "named"] vs) H := by
  obtain ⟨t, ops, rfl, lg, few, ok, q⟩ := h
  show t4__law_log_right K _ [some (.ref t), none, none, none, none, none, none, none, none, none, none] H
  unfold t4__law_log_right
  walk_at "ws_13"
  refine o_reprLog lg ok few ?_
  walk_at "ws_13"
  refine ⟨t, ops, rfl, lg, few, fun l H1 k1 zl hl => ?_⟩
  have vb := vals_big ok
  have vl := vals_len ops
  walk_at "ws_13"
  have lg1 := lg.keep k1
  refine ⟨t, ops, rfl, lg1, few, fun p2 H2 k2 _ hp2 => ?_⟩
  walk_at "ws_13"
  refine o_reprT hp2 vb (by omega) ?_
  walk_at "ws_13"
  refine o_tupof (k2.all _ _ id hl) fun p3 H3 n3 => ?_
  walk_at "ws_13"
  refine o_reprT n3.at_ vb (by omega) ?_
  walk_at "ws_13"
  refine w_iteF (by simp) ?_
  walk_at "ws_13"
  have k3 := k2.trans n3.keep
  refine w_callW ?_
  walk_at "ws_13"
  refine ⟨rfl, t, ops, rfl, lg1.keep k3, few, fun p4 H4 k4 _ hp4 => ?_⟩
  walk_at "ws_13"
  refine o_reprT hp4 vb (by omega) ?_
  walk_at "ws_13"
  refine o_tupof ((k3.trans k4).all _ _ id hl) fun p5 H5 n5 => ?_
  walk_at "ws_13"
  refine o_reprT n5.at_ vb (by omega) ?_
  walk_at "ws_13"
  refine w_iteF (by simp) ?_
  walk_at "ws_13"
  have k15 := (k3.trans k4).trans n5.keep
  refine w_forSl ?_
  walk_at "ws_13"
  refine k_Fl (k15.all _ _ id hl) (fun n σ H' => (∃ x3 x4 x5 x6 x7 x8 x9 x10, σ = [some (.ref t), some (.str (PyData.tuple (ops.map Op.dat)).shown), some (.ref l), x3, x4, x5, x6, x7, x8, x9, x10]) ∧ Keep NoS H5 H') ⟨⟨_, _, _, _, _, _, _, _, rfl⟩, Keep.refl _ _⟩
    (fun n σ H' _ h => h.2.all _ _ id (k15.all _ _ id hl)) ?_ ?_
  · rintro n x σ H6 hn ⟨⟨x3, x4, x5, x6, x7, x8, x9, x10, rfl⟩, k6⟩
    rw [List.getElem?_map] at hn
    obtain ⟨v, ev, rfl⟩ := Option.map_eq_some_iff.mp hn
    have hv : v ∈ vals ops := List.mem_of_getElem? ev
    have lg6 := (lg1.keep k15).keep k6
    have il : (idxOf ops v).length ≤ 200 := Nat.le_trans idxN_len few
    have ib : ∀ m ∈ (idxOf ops v).map (fun n : Nat => (n : Int)), m.natAbs ≤ 10 ^ 30 := fun m hm => by
      obtain ⟨k, hk, rfl⟩ := List.mem_map.mp hm
      have := idx_lt hk
      have big : (200 : Nat) ≤ 10 ^ 30 := by decide +kernel
      omega
    have im : ((idxOf ops v).map fun n => V.int (n : Nat)) = ((idxOf ops v).map fun n : Nat => (n : Int)).map V.int := by rw [List.map_map]; rfl
    walk_at "ws_13"
    unfold t4__law_log_right_2
    walk_at "ws_13"
    refine lc_idx (t := t) (v := v) (by with_unfolding_all rfl) (by with_unfolding_all rfl) lg6 (by decide) (by decide) (by decide) (by simp) (by simp) few fun o H7 k7 zo ho => ?_
    walk_at "ws_13"
    have lg7 := lg6.keep k7
    refine lc_nats (a := o) (p := fun i => match ops[i]? with | some o => o.w | none => false) (key := fun n => .int (n : Nat)) (by with_unfolding_all rfl) ho il (fun n H2 Qb hn k hq => ?_) (fun n H2 Q2 hn k hq => w_var (by with_unfolding_all rfl) hq) fun wl H8 k8 zw hw => ?_
    · obtain ⟨qo, h1, h2⟩ := idx_mem.mp hn
      obtain ⟨xs, u, a1, a2, a3⟩ := (lg7.keep k).get h1
      refine w_test (w_op (w_op (w_op (w_var (by with_unfolding_all rfl) (w_var (by with_unfolding_all rfl) (o_ixt a1 a2 (w_c (o_ixt (n := 0) a3 rfl (w_c ?_)))))))))
      refine o_eqs rfl ⟨_, rfl, ?_⟩
      rw [kind_eq]
      rw [h1] at hq
      exact hq
    walk_at "ws_13"
    have lg8 := lg7.keep k8
    have ho8 := k8.all _ _ id ho
    refine ⟨t, ops, v, rfl, lg8, few, hv, fun a1 H9 k9 za1 ha1 => ?_⟩
    walk_at "ws_13"
    refine w_callW ?_
    walk_at "ws_13"
    refine ⟨rfl, t, ops, v, rfl, lg8.keep k9, few, hv, fun a2 H10 k10 za2 ha2 => ?_⟩
    walk_at "ws_13"
    refine k_lst (by simp; decide) fun l1 H11 n11 => ?_
    walk_at "ws_13"
    rw [im] at ha1 ha2
    refine o_repr2T n11.at_ (n11.get (k10.tup _ _ ha1)) (n11.get ha2) ib (by rw [List.length_map]; exact il) ?_
    walk_at "ws_13"
    have k811 := (k9.trans k10).trans n11.keep
    refine o_tupof (k811.all _ _ id ho8) fun tp H12 n12 => ?_
    walk_at "ws_13"
    refine k_lst (by simp; decide) fun l2 H13 n13 => ?_
    walk_at "ws_13"
    refine o_rep2 n13.at_ (by simp; decide) fun l3 H14 n14 => ?_
    have htp : H14 tp = some (.tup (((idxOf ops v).map fun n : Nat => (n : Int)).map V.int)) := by rw [← im]; exact n14.get (n13.get n12.at_)
    walk_at "ws_13"
    refine o_repr2T n14.at_ htp htp ib (by rw [List.length_map]; exact il) ?_
    walk_at "ws_13"
    refine w_iteF (by simp) ?_
    walk_at "ws_13"
    have k814 := ((k811.trans n12.keep).trans n13.keep).trans n14.keep
    have lg14 := lg8.keep k814
    refine ⟨t, ops, v, rfl, lg14, few, hv, fun G1 g1 => ?_⟩
    walk_at "ws_13"
    refine ⟨t, ops, v, rfl, lg14.keep g1, few, hv, fun G2 g2 => ?_⟩
    walk_at "ws_13"
    refine ⟨t, ops, v, rfl, (lg14.keep g1).keep g2, few, hv, fun G3 g3 => ?_⟩
    walk_at "ws_13"
    refine k_lst (by simp; decide) fun l8 G4 m4 => ?_
    walk_at "ws_13"
    have g4 : Keep NoS H8 G4 := k814.trans (((g1.trans g2).trans g3).trans m4.keep)
    have lgG := lg8.keep g4
    have hwG := g4.all _ _ id hw
    have hoG := g4.all _ _ id ho8
    refine k_lst (by simp; decide) fun nl G5 m5 => ?_
    refine o_addL (m5.get hwG) m5.at_ (Nat.le_trans (by rw [List.length_map]; have := List.length_filter_le (fun i => match ops[i]? with | some o => o.w | none => false) (idxOf ops v); simp; omega : _ ≤ 1000) (by decide)) fun sl G6 m6 => ?_
    walk_at "ws_13"
    refine o_ixl (n := 0) m6.at_ filt_head ?_
    walk_at "ws_13"
    have g6 := (m5.keep (S := NoS)).trans m6.keep
    have hoG6 := g6.all _ _ id hoG
    have lgG6 := lgG.keep g6
    refine lc_nats (a := o) (p := fun _ => true) (key := fun n => .int (match ops[n]? with | some o => o.e | none => 0)) (by with_unfolding_all rfl) hoG6 il (fun n H2 Qb hn k hq => hq) (fun n H2 Q2 hn k hq => ?_) fun ml G7 g7 zm hm => ?_
    · obtain ⟨qo, h1, h2⟩ := idx_mem.mp hn
      obtain ⟨xs, u, a1, a2, a3⟩ := (lgG6.keep k).get h1
      rw [h1] at hq
      exact w_op (w_op (w_var (by with_unfolding_all rfl) (w_var (by with_unfolding_all rfl) (o_ixt a1 a2 (w_c (o_ixt (n := 3) a3 rfl hq))))))
    walk_at "ws_13"
    rw [filter_all] at hm
    refine ⟨ml, (idxOf ops v).map (fun n => match ops[n]? with | some o => o.e | none => 0), rfl, .inl (.inl (by rw [hm, List.map_map]; rfl)), by rw [List.length_map]; exact idx_pos hv, fun mn hm1 hm2 => ?_⟩
    have em := min_idx hv rfl hm1 hm2
    subst em
    walk_at "ws_13"
    have hoG7 := g7.all _ _ id hoG6
    have lgG7 := lgG6.keep g7
    refine lc_nats (a := o) (p := fun _ => true) (key := fun n => .int (match ops[n]? with | some o => o.b | none => 0)) (by with_unfolding_all rfl) hoG7 il (fun n H2 Qb hn k hq => hq) (fun n H2 Q2 hn k hq => ?_) fun xl G8 g8 zx hx => ?_
    · obtain ⟨qo, h1, h2⟩ := idx_mem.mp hn
      obtain ⟨xs, u, a1, a2, a3⟩ := (lgG7.keep k).get h1
      rw [h1] at hq
      exact w_op (w_op (w_var (by with_unfolding_all rfl) (w_var (by with_unfolding_all rfl) (o_ixt a1 a2 (w_c (o_ixt (n := 2) a3 rfl hq))))))
    walk_at "ws_13"
    rw [filter_all] at hx
    refine ⟨xl, (idxOf ops v).map (fun n => match ops[n]? with | some o => o.b | none => 0), rfl, .inl (.inl (by rw [hx, List.map_map]; rfl)), by rw [List.length_map]; exact idx_pos hv, fun mx hm1 hm2 => ?_⟩
    have em := max_idx hv rfl hm1 hm2
    subst em
    walk_at "ws_13"
    refine k_lst (by simp; decide) fun l9 G9 m9 => ?_
    walk_at "ws_13"
    have g49 : Keep NoS G4 G9 := ((g6.trans g7).trans g8).trans m9.keep
    have h8 : G9 l8 = some (.lst [optN (wrIx ops v), spanF ops v, .int (lastB ops v)]) := g49.all _ _ id m4.at_
    have k59 : Keep NoS H5 G9 := ((k6.trans k7).trans k8).trans (g4.trans g49)
    have l89 : l8 ≠ l9 := fun z => by
      have := free_of ((g6.trans g7).trans g8) id m9.no
      rw [← z, m4.at_] at this
      cases this
    have lgG9 := lgG.keep g49
    have z9 : H5 l9 = none := free_of (((k6.trans k7).trans k8).trans (g4.trans ((g6.trans g7).trans g8))) id m9.no
    rw [show decide (V.int v = V.int 0) = decide (v = 0) by simp]
    refine w_ite (fun c => ?_) (fun c => ?_)
    · walk_at "ws_13"
      refine o_setL m9.at_ (by decide) (by simp) ?_
      have e9 : (upd G9 l9 (.lst ([optN ((idxOf ops v).find? fun i => match ops[i]? with | some o => o.w | none => false), V.int (firstE ops v), V.int (lastB ops v)].set (1 : Int).toNat V.non))) l9 = some (.lst [optN (wrIx ops v), spanF ops v, .int (lastB ops v)]) := by
        rw [upd_same]
        unfold spanF
        rw [if_pos c]
        rfl
      have kz : Keep NoS H5 (upd G9 l9 (.lst ([optN ((idxOf ops v).find? fun i => match ops[i]? with | some o => o.w | none => false), V.int (firstE ops v), V.int (lastB ops v)].set (1 : Int).toNat V.non))) := k59.putO (o := .lst []) z9
      walk_at "ws_13"
      refine log4_1 ((lg1.keep k15).keep kz) few ok hv (by rw [upd_ne l89]; exact h8) e9 fun H' y ky => ?_
      exact ⟨⟨_, _, _, _, _, _, _, _, rfl⟩, kz.trans ky⟩
    · walk_at "ws_13"
      refine log4_1 lgG9 few ok hv h8 (by
        have : spanF ops v = .int (firstE ops v) := by unfold spanF; rw [if_neg c]
        rw [this]
        exact m9.at_) fun H' y ky => ?_
      exact ⟨⟨_, _, _, _, _, _, _, _, rfl⟩, k59.trans ky⟩
  · rintro σ H6 ⟨⟨x3, x4, x5, x6, x7, x8, x9, x10, rfl⟩, k6⟩
    walk_at "ws_13"
    refine o_reprLog ((lg1.keep k15).keep k6) ok few ?_
    walk_at "ws_13"
    rw [show decide (V.str (PyData.tuple (ops.map Op.dat)).shown = V.str (PyData.tuple (ops.map Op.dat)).shown) = true by simp]
    exact q H6 ((k1.trans k15).trans k6)
/-- a value that is a log -/
def LogV (H : Hp) (v : V) : Prop := ∃ (t : Addr) (ops : List Op), v = .ref t ∧ LogAt H t ops ∧ ops.length ≤ 200 ∧ ∀ o ∈ ops, o.ok
theorem LogV.keep {S : Addr → Prop} {H H' : Hp} {v : V} (h : LogV H v) (k : Keep S H H') : LogV H' v := by
  obtain ⟨t, ops, e, lg, r⟩ := h
  exact ⟨t, ops, e, lg.keep k, r⟩
theorem OpsL.put {H : Hp} {D : Addr} {ops : List Op} {xs : List V} {o : Op} {u : Addr} (hb : H D = some (.lst xs)) (hl : xs.length = ops.length) (hi : ∀ (i : Nat) (o : Op), ops[i]? = some o → ∃ u, xs[i]? = some (.ref u) ∧ H u = some (opT o)) (hu : H u = some (opT o)) :
    OpsL (upd H D (.lst (xs ++ [.ref u]))) D (ops ++ [o]) := by
  have nD : ∀ w (q : Op), H w = some (opT q) → w ≠ D := fun w q hw z => by rw [z, hb] at hw; cases hw
  refine ⟨xs ++ [.ref u], upd_same, by rw [List.length_append, List.length_append, hl]; rfl, fun m q em => ?_⟩
  by_cases lm : m < ops.length
  · rw [List.getElem?_append_left lm] at em
    obtain ⟨w, a1, a2⟩ := hi m q em
    exact ⟨w, by rw [List.getElem?_append_left (by omega)]; exact a1, by rw [upd_ne (nD w q a2)]; exact a2⟩
  · rw [List.getElem?_append_right (by omega)] at em
    by_cases z : m = ops.length
    · subst z
      rw [Nat.sub_self] at em
      have em : o = q := Option.some.inj em
      subst em
      exact ⟨u, by rw [← hl, List.getElem?_append_right (Nat.le_refl _), Nat.sub_self]; rfl, by rw [upd_ne (nD u o hu)]; exact hu⟩
    · rw [List.getElem?_eq_none (by simp; omega)] at em
      cases em
/-- [operation for slot i in range(n)] -/
theorem lc_mk {σ : LB.St} {H : Hp} {Q : VK} {n i : Nat} {te : TE} {S : Addr → Prop} {R : Nat → Hp → Prop} {P : Nat → Op → Prop} (few : n ≤ 200) (hS : ∀ b, S b → H b ≠ none) (h0 : R 0 H) (hR : ∀ (j : Nat) (H2 : Hp) (D : Addr) (o : HO), H D = none → R j H2 → R j (upd H2 D o))
    (he : ∀ (j : Nat) (H2 : Hp) (Q2 : VK), j < n → Keep S H H2 → R j H2 → (∀ (u : Addr) (o : Op) (H3 : Hp), Keep S H2 H3 → H3 u = some (opT o) → P j o → R (j + 1) H3 → Q2 (.ref u) H3) → te ((σ.set i none).set i (some (.int (0 + (j : Nat))))) H2 Q2)
    (q : ∀ (b : Addr) (H' : Hp) (ops : List Op), Keep S H H' → H b = none → R n H' → OpsL H' b ops → ops.length = n → (∀ (j : Nat) (o : Op), ops[j]? = some o → P j o) → Q (.ref b) H') : tLc (iRng1 (tCons (tC (V.int (n : Nat))) tNil)) (gName i) tYes te [i] σ H Q := by
  refine ⟨(n : Nat), rfl, by omega, by omega, fun D hD => ?_⟩
  rw [Int.toNat_natCast]
  have nD : ¬ S D := fun z => hS D z hD
  refine lc_range (fun j H' => Keep S H H' ∧ R j H' ∧ ∃ ops : List Op, OpsL H' D ops ∧ ops.length = j ∧ ∀ (k : Nat) (o : Op), ops[k]? = some o → P k o) ⟨Keep.new hD, hR 0 _ _ _ hD h0, [], ⟨[], upd_same, rfl, fun i o e => by simp at e⟩, rfl, fun k o e => by simp at e⟩ ?_ ?_
  · rintro j H1 hj ⟨k1, r1, ops, ⟨xs, x1, x2, x3⟩, ol, op⟩
    refine ⟨by show ((σ.set i none).set i _).set i none = σ.set i none; rw [List.set_set, List.set_set], ?_⟩
    simp only [tYes, if_true]
    refine he j H1 _ hj k1 r1 fun u o H3 k3 hu hp r3 => ?_
    have hb := k3.all _ _ nD x1
    refine ⟨xs, hb, Nat.lt_of_le_of_lt (by omega : xs.length ≤ 1000) (by decide), (k1.trans k3).putO (o := .lst []) hD, hR _ _ _ _ hD r3, ops ++ [o], OpsL.put hb x2 (fun m q e => by obtain ⟨w, a, b⟩ := x3 m q e; exact ⟨w, a, k3.tup _ _ b⟩) hu, by rw [List.length_append, ol]; rfl, fun k q e => ?_⟩
    by_cases lm : k < ops.length
    · rw [List.getElem?_append_left lm] at e
      exact op k q e
    · rw [List.getElem?_append_right (by omega)] at e
      by_cases z : k = ops.length
      · rw [z, Nat.sub_self] at e
        have e : o = q := Option.some.inj e
        rw [z, ol, ← e]
        exact hp
      · rw [List.getElem?_eq_none (by simp; omega)] at e
        cases e
  · rintro H1 ⟨k1, r1, ops, o1, o2, o3⟩
    exact q D H1 ops k1 hD r1 o1 o2 o3
theorem OpsL.tup {H H1 : Hp} {b c : Addr} {ops : List Op} {xs : List V} (h : OpsL H b ops) (e : H b = some (.lst xs)) (n : New H H1 c (.tup xs)) : LogAt H1 c ops := by
  obtain ⟨ys, y1, y2, y3⟩ := h
  rw [e] at y1
  cases y1
  exact ⟨xs, n.at_, y2, fun i o h => by obtain ⟨u, a, b⟩ := y3 i o h; exact ⟨u, a, n.get b⟩⟩
/-- 200 writes -/
def greatN (n : Nat) : List Op := (List.range n).map fun i => ⟨true, 1000000000 - (i : Nat), -(i : Nat), 1000000000000000 - (i : Nat)⟩
theorem greatN_at {n i : Nat} {o : Op} (h : (greatN n)[i]? = some o) : i < n ∧ o = ⟨true, 1000000000 - (i : Nat), -(i : Nat), 1000000000000000 - (i : Nat)⟩ := by
  unfold greatN at h
  rw [List.getElem?_map] at h
  obtain ⟨k, hk, rfl⟩ := Option.map_eq_some_iff.mp h
  obtain ⟨h1, h2⟩ := List.getElem?_eq_some_iff.mp hk
  rw [List.getElem_range] at h2
  rw [List.length_range] at h1
  subst h2
  exact ⟨h1, rfl⟩
theorem greatN_len {n : Nat} : (greatN n).length = n := by unfold greatN; rw [List.length_map, List.length_range]
theorem greatN_ok {n : Nat} (hn : n ≤ 200) : ∀ o ∈ greatN n, o.ok := fun o ho => by
  obtain ⟨i, hi⟩ := List.mem_iff_getElem?.mp ho
  obtain ⟨h1, rfl⟩ := greatN_at hi
  exact op_ok (fun _ => by omega) (by omega) (by omega) (by omega) (by omega) (by omega)
theorem greatN_is {n : Nat} {ops : List Op} (hl : ops.length = n) (h : ∀ (j : Nat) (o : Op), ops[j]? = some o → o = ⟨true, 1000000000 - (j : Nat), -(j : Nat), 1000000000000000 - (j : Nat)⟩) : ops = greatN n := by
  refine List.ext_getElem? fun i => ?_
  by_cases z : i < n
  · have e1 : ops[i]? = some ops[i] := List.getElem?_eq_getElem (by omega)
    have hz : i < (greatN n).length := by rw [greatN_len]; exact z
    have e2 : (greatN n)[i]? = some (greatN n)[i] := List.getElem?_eq_getElem hz
    rw [e1, e2, h i _ e1, (greatN_at e2).2]
  · rw [List.getElem?_eq_none (by omega), List.getElem?_eq_none (by rw [greatN_len]; omega)]
theorem greatN_nodup {n : Nat} : ((greatN n).map (·.v)).Nodup := by
  unfold greatN
  rw [List.map_map]
  refine (List.pairwise_map.mpr ?_)
  refine List.Pairwise.imp_of_mem (R := fun a b => a ≠ b) ?_ (List.nodup_range (n := n))
  intro a b _ _ h e
  simp only [Function.comp] at e
  omega
theorem greatN_wr : wrIx (greatN 200) (1000000000 - 199) = some 199 := by
  have only : ∀ k ∈ idxOf (greatN 200) (1000000000 - 199), k = 199 := fun k hk => by
    obtain ⟨o, h1, h2⟩ := idx_mem.mp hk
    obtain ⟨_, rfl⟩ := greatN_at h1
    simp only at h2
    omega
  have at199 : (greatN 200)[199]? = some ⟨true, 1000000000 - (199 : Nat), -(199 : Nat), 1000000000000000 - (199 : Nat)⟩ := by
    have hz : 199 < (greatN 200).length := by rw [greatN_len]; omega
    have e2 : (greatN 200)[199]? = some (greatN 200)[199] := List.getElem?_eq_getElem hz
    rw [e2, (greatN_at e2).2]
  have mem : 199 ∈ idxOf (greatN 200) (1000000000 - 199) := idx_mem.mpr ⟨_, at199, by simp⟩
  cases e : wrIx (greatN 200) (1000000000 - 199) with
  | none =>
    unfold wrIx at e
    have := (List.find?_eq_none.mp e) 199 mem
    rw [at199] at this
    simp at this
  | some k => rw [only k (List.mem_of_find?_eq_some e)]
theorem eqv_ints : ∀ {ns : List Int}, PyData.eqvAll (ns.map PyData.int) (ns.map PyData.int) = true
  | [] => rfl
  | n :: ns => by
    simp only [List.map_cons, PyData.eqvAll, PyData.eqv, beq_self_eq_true, Bool.true_and]
    exact eqv_ints
theorem o_neInts {K : PySem.W.Frag} {H : Hp} {Q : VK} {a b : Addr} {ns : List Int} (ea : H a = some (.tup (ns.map V.int))) (eb : H b = some (.tup (ns.map V.int))) (q : Q (.bl false) H) : rNeA K (.ref a) (.ref b) H Q := by
  have lay : ∀ d ∈ ns.map PyData.int, d.canLay0 = true ∧ d.depth ≤ 60 := fun d hd => by
    obtain ⟨n, _, rfl⟩ := List.mem_map.mp hd
    exact ⟨by simp only [PyData.canLay0], by simp only [PyData.depth]; omega⟩
  have all := canLayAll0_of fun d hd => (lay d hd).1
  refine .inr ⟨.tuple (ns.map PyData.int), .tuple (ns.map PyData.int), .tup (.inl (.inl ea)) (dds_dp (S := NoS) ints_data all), .tup (.inl (.inl eb)) (dds_dp (S := NoS) ints_data all), shaped_tuple lay, shaped_tuple lay, ?_⟩
  simp only [PyData.eqv, eqv_ints, Bool.not_true]
  exact q
theorem sorted_vals {ops : List Op} (nd : (ops.map (·.v)).Nodup) {ms : List Int} (p : ms.Perm (ops.map (·.v))) (s : ms.Pairwise (· ≤ ·)) : ms = vals ops :=
  asc_eq (lt_of_le_nodup ms s (p.nodup_iff.mpr nd)) (vals_asc ops) fun k => by rw [p.mem_iff, vals_mem]
theorem pure4__law_right {K : PySem.W.Frag} {vs : List V} {H : Hp} {Q : VK} {E : XK} (h : spRight vs H Q E) : t4__law_right K { nx := fun _ H' => Q .non H', rt := Q } (start ["pot", "logs", "at", "great", "one", "book"] vs) H := by
  obtain ⟨p, N, rfl, pt, hN, q⟩ := h
  show t4__law_right K _ [some (.ref p), none, none, none, none, none] H
  unfold t4__law_right
  walk_at "ws_13"
  refine k_tup (by simp) fun e0 F0 n0 => ?_
  walk_at "ws_13"
  have pt0 := pt.new n0
  refine ⟨p, 20, 12, N, rfl, pt0, by omega, by omega, by omega, by omega, by simp; omega, fun F1 t1 ops1 kp1 pt1 dd1 lo1 hl1 ho1 => ?_⟩
  walk_at "ws_13"
  refine ⟨p, 6, 4, N - 168, rfl, pt1.le (by simp), by omega, by omega, by omega, by omega, by simp; omega, fun F2 t2 ops2 kp2 pt2 dd2 lo2 hl2 ho2 => ?_⟩
  walk_at "ws_13"
  refine ⟨p, 20, 4, 6, N - 168 - 56, rfl, pt2.le (by simp), by omega, by omega, by omega, by omega, by omega, by omega, by simp; omega, fun F3 t3 ops3 kp3 pt3 dd3 lo3 hl3 ho3 => ?_⟩
  walk_at "ws_13"
  refine k_lst (by simp; decide) fun l F4 n4 => ?_
  walk_at "ws_13"
  have pt4 : Pot F4 p (N - 168 - 56 - 168) := (pt3.new n4).le (by simp)
  have pl : p ≠ l := pt3.ne n4.no
  have k04 : Keep (At p) H F4 := ((n0.keep.trans kp1).trans (kp2.trans kp3)).trans n4.keep
  have zl : H l = none := by
    cases z : H l with
    | none => rfl
    | some o => have := ((n0.keep.trans kp1).trans (kp2.trans kp3)).all l o (fun e => pl e.symm) z; rw [n4.no] at this; cases this
  have b0 : LogV F4 (.ref e0) := ⟨e0, [], rfl, ⟨[], n4.get (kp3.tup _ _ (kp2.tup _ _ (kp1.tup _ _ n0.at_))), rfl, fun i o e => by simp at e⟩, by simp, fun o ho => by simp at ho⟩
  have b1 : LogV F4 (.ref t1) := ⟨t1, ops1, rfl, (((LogAt.of_dd dd1).keep kp2).keep kp3).keep (S := NoS) n4.keep, Nat.le_trans hl1 (by simp), lo1.1⟩
  have b2 : LogV F4 (.ref t2) := ⟨t2, ops2, rfl, ((LogAt.of_dd dd2).keep kp3).keep (S := NoS) n4.keep, Nat.le_trans hl2 (by simp), lo2.1⟩
  have b3 : LogV F4 (.ref t3) := ⟨t3, ops3, rfl, (LogAt.of_dd dd3).keep (S := NoS) n4.keep, by rw [hl3]; simp, lo3.1⟩
  have hl4 := n4.at_
  walk_at "ws_13"
  -- 200 reads
  refine lc_mk (n := 200) (S := At p) (R := fun j H' => Pot H' p (N - 392 - 2 * j)) (P := fun _ o => o.ok) (by omega) (fun b hb e => by rw [hb] at e; obtain ⟨xs, hx⟩ := pt4.some; rw [hx] at e; cases e) (pt4.le (by omega)) (fun j H2 D o hD hr => by
    have : p ≠ D := pt4.ne hD
    obtain ⟨a, b, c, e, r⟩ := hr
    exact ⟨a, b, c, by rw [upd_ne this]; exact e, r⟩) (fun j H2 Q2 hj k2 hr hq => ?_) fun b G1 ops k1 zb hr ol oln oP => ?_
  · walk_at "ws_13"
    refine o_draw hr (by omega) (by omega) (by omega) fun H3 z k3 pt3' z0 z1 => ?_
    walk_at "ws_13"
    refine o_draw pt3' (by omega) (by omega) (by omega) fun H4 y k4 pt4' y0 y1 => ?_
    walk_at "ws_13"
    refine k_tup (by simp; decide) fun u H5 n5 => ?_
    exact hq u ⟨false, z, 0 + (j : Nat), 0 + (j : Nat) + y⟩ H5 ((k3.trans k4).trans n5.keep) n5.at_ (op_ok (fun e => by cases e) z0 (by omega) (by omega) (by omega) (by omega)) ((pt4'.new n5).le (by omega))
  walk_at "ws_13"
  obtain ⟨ys, y1, y2, y3⟩ := id ol
  refine o_tupof y1 fun c G2 n2 => ?_
  have lgR := ol.tup y1 n2
  have hl2' : G2 l = some (.lst [.ref e0, .ref t1, .ref t2, .ref t3]) := n2.get (k1.all _ _ (fun z => pl z.symm) hl4)
  have okR : ∀ o ∈ ops, o.ok := fun o ho => by
    obtain ⟨j, hj⟩ := List.mem_iff_getElem?.mp ho
    exact oP j o hj
  have k42 : Keep (At p) F4 G2 := k1.trans n2.keep
  walk_at "ws_13"
  refine o_app hl2' (Nat.lt_of_le_of_lt (by simp : ([V.ref e0, .ref t1, .ref t2, .ref t3] : List V).length ≤ 1000) (by decide)) fun G3 p3 => ?_
  have kl3 : Keep All G2 G3 := p3.keep (S := All) trivial hl2'
  have k3 : Keep (At p) H G3 := p3.keep0 (k04.trans k42) zl hl2'
  have books : ∀ v ∈ [V.ref e0, .ref t1, .ref t2, .ref t3] ++ [V.ref c], LogV G3 v := by
    refine all_app (all_cons ((b0.keep k42).keep kl3) (all_cons ((b1.keep k42).keep kl3) (all_cons ((b2.keep k42).keep kl3) (all_cons ((b3.keep k42).keep kl3) all_nil)))) (all_cons ?_ all_nil)
    exact ⟨c, ops, rfl, lgR.keep kl3, by omega, okR⟩
  have hl3 := p3.at_
  have xl : ([V.ref e0, .ref t1, .ref t2, .ref t3] ++ [V.ref c]).length = 5 := rfl
  generalize [V.ref e0, V.ref t1, V.ref t2, V.ref t3] ++ [V.ref c] = bs at hl3 books xl
  walk_at "ws_13"
  -- 200 writes
  refine lc_mk (n := 200) (S := NoS) (R := fun _ _ => True) (P := fun j o => o = ⟨true, 1000000000 - (j : Nat), -(j : Nat), 1000000000000000 - (j : Nat)⟩) (by omega) (fun _ hb _ => hb) trivial (fun _ _ _ _ _ h => h) (fun j H2 Q2 hj k2 _ hq => ?_) fun b2' G4 ops2' k4' zb2 _ ol2 oln2 oP2 => ?_
  · walk_at "ws_13"
    refine o_pow ⟨by decide, by decide +kernel⟩ ?_
    walk_at "ws_13"
    rw [show (10 : Int) ^ (9 : Int).toNat = 1000000000 by decide +kernel]
    refine o_pow ⟨by decide, by decide +kernel⟩ ?_
    walk_at "ws_13"
    rw [show (10 : Int) ^ (15 : Int).toNat = 1000000000000000 by decide +kernel, Int.zero_add]
    refine k_tup (by simp; decide) fun u H5 n5 => ?_
    exact hq u ⟨true, 1000000000 - (j : Nat), -(j : Nat), 1000000000000000 - (j : Nat)⟩ H5 n5.keep n5.at_ rfl trivial
  have eg := greatN_is oln2 oP2
  subst eg
  walk_at "ws_13"
  obtain ⟨zs, z1, z2, z3⟩ := id ol2
  refine o_tupof z1 fun g G5 n5 => ?_
  have lgG := ol2.tup z1 n5
  have k35 : Keep NoS G3 G5 := k4'.trans n5.keep
  walk_at "ws_13"
  refine ⟨g, greatN 200, rfl, lgG, by rw [greatN_len]; omega, fun pv G6 k6 _ hv => ?_⟩
  walk_at "ws_13"
  refine lc_ops (t := g) (ops := greatN 200) (key := fun o => .int o.v) (by with_unfolding_all rfl) (lgG.keep k6) (by rw [greatN_len]; omega) (fun u o H2 Q2 hu q2 => w_op (w_var (by with_unfolding_all rfl) (w_c (o_ixt (n := 1) hu rfl q2)))) fun b7 G7 k7 zb7 hb7 => ?_
  walk_at "ws_13"
  refine ⟨b7, (greatN 200).map (·.v), rfl, .inl (.inl (by rw [hb7, List.map_map]; rfl)), fun ms p8 pm ps z8 => ?_⟩
  have em := sorted_vals greatN_nodup pm ps
  subst em
  walk_at "ws_13"
  have n8 : New G7 (upd G7 p8 (.lst ((vals (greatN 200)).map V.int))) p8 (.lst ((vals (greatN 200)).map V.int)) := .mk' z8
  refine o_tupof upd_same fun p9 G9 n9 => ?_
  walk_at "ws_13"
  have k69 := (k7.trans n8.keep).trans n9.keep
  refine o_neInts (k69.tup _ _ hv) n9.at_ ?_
  walk_at "ws_13"
  refine w_iteF rfl ?_
  walk_at "ws_13"
  refine o_pow ⟨by decide, by decide +kernel⟩ ?_
  walk_at "ws_13"
  rw [show (10 : Int) ^ (9 : Int).toNat = 1000000000 by decide +kernel]
  have lg9 := (lgG.keep k6).keep k69
  have at199 : (1000000000 - 199 : Int) ∈ vals (greatN 200) := by
    have hz : 199 < (greatN 200).length := by rw [greatN_len]; omega
    have e2 : (greatN 200)[199]? = some (greatN 200)[199] := List.getElem?_eq_getElem hz
    exact vals_at.mpr ⟨199, _, e2, by rw [(greatN_at e2).2]; rfl⟩
  refine ⟨g, greatN 200, 1000000000 - 199, rfl, lg9, by rw [greatN_len]; omega, at199, fun G10 k10 => ?_⟩
  rw [greatN_wr]
  walk_at "ws_13"
  refine w_iteF (by decide) ?_
  walk_at "ws_13"
  -- all of them
  have k310 : Keep NoS G3 G10 := (k35.trans k6).trans (k69.trans k10)
  have lg10 := lg9.keep k10
  refine .inl ?_
  unfold iList
  walk_at "ws_13"
  obtain ⟨xs, c1, c2, c3⟩ := id lg10
  refine o_slt c1 fun c40 G11 k11 h40 => ?_
  have e40 : cutV xs none (some 40) = xs.take 40 := by
    have : xs.length = 200 := by rw [c2, greatN_len]
    unfold cutV
    rw [this]
    rfl
  rw [e40] at h40
  have lg40 : LogV G11 (.ref c40) := by
    refine ⟨c40, greatN 40, rfl, ⟨_, h40, by rw [List.length_take, c2, greatN_len, greatN_len]; rfl, fun i o e => ?_⟩, by rw [greatN_len]; omega, greatN_ok (by omega)⟩
    obtain ⟨li, rfl⟩ := greatN_at e
    have hz : i < (greatN 200).length := by rw [greatN_len]; omega
    have e2 : (greatN 200)[i]? = some (greatN 200)[i] := List.getElem?_eq_getElem hz
    obtain ⟨u, a, b⟩ := c3 i _ e2
    rw [(greatN_at e2).2] at b
    exact ⟨u, by rw [List.getElem?_take_of_lt li]; exact a, k11.tup _ _ b⟩
  walk_at "ws_13"
  refine k_lst (by simp; decide) fun l2 G12 n12 => ?_
  refine o_addL (n12.get (k11.all _ _ id (k310.all _ _ id hl3))) n12.at_ (Nat.le_trans (by rw [xl]; simp : _ ≤ 1000) (by decide)) fun l3 G13 n13 => ?_
  have k313 : Keep NoS G3 G13 := ((k310.trans k11).trans n12.keep).trans n13.keep
  have all6 : ∀ v ∈ bs ++ [V.ref c40], LogV G13 v := all_app (fun v hv => (books v hv).keep k313) (all_cons ((lg40.keep (S := NoS) n12.keep).keep (S := NoS) n13.keep) all_nil)
  have kH : Keep (At p) H G13 := k3.trans k313.of0
  refine ⟨l3, rfl, ⟨_, .inl (.inl n13.at_)⟩, fun D hD => ?_⟩
  refine lc_list (xs := bs ++ [V.ref c40]) (fun n H' => Keep NoS G13 H' ∧ H' D = some (.lst ((List.replicate n true).map V.bl))) ⟨Keep.new hD, upd_same⟩ (fun n H' _ h => .inl (.inl (h.1.all _ _ id n13.at_))) ?_ ?_
  · rintro n x H1 hn ⟨kz, hb⟩
    obtain ⟨t, os, rfl, lg, few, ok⟩ := (all6 x (List.mem_of_getElem? hn)).keep kz
    have ln : n < 6 := by
      by_cases z : n < 6
      · exact z
      · rw [List.getElem?_eq_none (by rw [List.length_append, xl]; simp; omega)] at hn; cases hn
    refine ⟨rfl, ?_⟩
    simp only [tYes, if_true]
    walk_at "ws_13"
    refine ⟨t, os, rfl, lg, few, ok, fun H2 k2 => ?_⟩
    have hb2 := k2.all _ _ id hb
    refine ⟨_, hb2, by rw [List.length_map, List.length_replicate]; exact Nat.lt_of_le_of_lt (by omega : n ≤ 1000) (by decide), (kz.trans k2).put0 hD hb2, ?_⟩
    rw [List.replicate_succ', List.map_append]
    exact upd_same
  · rintro H1 ⟨kz, hb⟩
    walk_at "ws_13"
    refine ⟨D, _, rfl, .inl (.inl hb), ?_⟩
    rw [all_true]
    walk_at "ws_13"
    exact q H1 (kH.trans kz.of0)
end LB

open PySem PySem.Spec PyProof.Rows L2 LB
namespace LB
theorem allN {α : Type} {P : α → Prop} : ∀ u ∈ ([] : List α), P u := fun _ h => by cases h
theorem allC {α : Type} {P : α → Prop} {v : α} {vs : List α} (h : P v) (r : ∀ u ∈ vs, P u) : ∀ u ∈ v :: vs, P u := fun u hu => by
  rcases List.mem_cons.mp hu with rfl | hu
  · exact h
  · exact r u hu
theorem allA {α : Type} {P : α → Prop} {us vs : List α} (h : ∀ u ∈ us, P u) (r : ∀ u ∈ vs, P u) : ∀ u ∈ us ++ vs, P u := fun u hu => by
  rcases List.mem_append.mp hu with hu | hu
  · exact h u hu
  · exact r u hu
/-! ### logs filtered -/
theorem OpsL.keep {S : Addr → Prop} {H H' : Hp} {t : Addr} {ops : List Op} (h : OpsL H t ops) (k : Keep S H H') (n : ¬ S t) : OpsL H' t ops := by
  obtain ⟨xs, h1, h2, h3⟩ := h
  refine ⟨xs, k.all _ _ n h1, h2, fun i o e => ?_⟩
  obtain ⟨u, e1, e2⟩ := h3 i o e
  exact ⟨u, e1, k.tup _ _ e2⟩
/-- [o for slot i in a log if test] -/
theorem lc_flt {K : PySem.W.Frag} {σ : LB.St} {H : Hp} {Q : VK} {t : Addr} {ops : List Op} {s i : Nat} {tt : TT} {p : Op → Bool} (es : σ[s]? = some (some (.ref t))) (li : i < σ.length) (lg : LogAt H t ops) (few : ops.length ≤ 1000)
    (ht : ∀ (u : Addr) (o : Op) (H2 : Hp) (Qb : Bool → Hp → Prop), Keep NoS H H2 → o ∈ ops → H2 u = some (opT o) → Qb (p o) H2 → tt ((σ.set i none).set i (some (.ref u))) H2 Qb)
    (q : ∀ (b : Addr) (H' : Hp), Keep NoS H H' → H b = none → OpsL H' b (ops.filter p) → Q (.ref b) H') : tLc (iSeq K (tVar s)) (gName i) tt (tVar i) [i] σ H Q := by
  obtain ⟨xs, hx, hl, hi⟩ := id lg
  refine .inr (w_var es ⟨t, rfl, ⟨xs, .inl (.inl hx)⟩, fun D hD => ?_⟩)
  refine lc_tup (xs := xs) (fun n H' => Keep NoS H H' ∧ OpsL H' D ((ops.take n).filter p)) ⟨Keep.new hD, [], upd_same, rfl, fun i o e => by simp at e⟩ (fun n H' _ h => .inl (.inl (h.1.tup _ _ hx))) ?_ ?_
  · rintro n x H1 hn ⟨k1, ys, hb, hyl, hy⟩
    have ln : n < ops.length := by
      rw [← hl]
      by_cases z : n < xs.length
      · exact z
      · rw [List.getElem?_eq_none (by omega)] at hn; cases hn
    have ho : ops[n]? = some ops[n] := List.getElem?_eq_getElem ln
    obtain ⟨u, e1, e2⟩ := hi n _ ho
    rw [hn] at e1
    cases e1
    refine ⟨by show ((σ.set i none).set i _).set i none = σ.set i none; rw [List.set_set, List.set_set], ?_⟩
    have hu := k1.tup _ _ e2
    have g1 : ((σ.set i none).set i (some (V.ref u)))[i]? = some (some (V.ref u)) := by simp [li]
    refine ht u ops[n] H1 _ k1 (List.getElem_mem ln) hu ?_
    have et : (ops.take (n + 1)).filter p = (ops.take n).filter p ++ (if p ops[n] = true then [ops[n]] else []) := by
      rw [List.take_add_one, ho, List.filter_append]
      cases c : p ops[n] <;> simp [c]
    refine w_iteb (fun c => ?_) (fun c => ?_)
    · refine w_var g1 ⟨_, hb, ?_, k1.put0 hD hb, ?_⟩
      · have := List.length_filter_le p (ops.take n)
        rw [List.length_take] at this
        exact Nat.lt_of_le_of_lt (by omega : _ ≤ 1000) (by decide)
      · rw [et, if_pos c]
        exact OpsL.put hb hyl hy hu
    · refine ⟨k1, ys, hb, ?_, fun m o em => ?_⟩
      · rw [et, c]
        simpa using hyl
      · rw [et, c] at em
        exact hy m o (by simpa using em)
  · rintro H1 ⟨k1, ol⟩
    rw [hl, List.take_length] at ol
    exact q D H1 k1 hD ol
/-- a comprehension over range(te) -/
theorem w_lcR {ta : TA} {g : TG} {tt : TT} {te : TE} {vs : List Nat} {σ : LB.St} {H : Hp} {Q : VK} (h : ta σ H fun ws H1 => tLc (fun _ _ R => ∃ j : Int, ws = [.int j] ∧ -(2 ^ 62) ≤ j ∧ j < 2 ^ 62 ∧ R (Itr 0 j.toNat) H1) g tt te vs σ H1 Q) : tLc (iRng1 ta) g tt te vs σ H Q := h
/-- without(log, values) -/
def outOf (ns : List Int) (ops : List Op) : List Op := ops.filter fun o => !decide (o.v ∈ ns)
theorem outOf_len {ns : List Int} {ops : List Op} : (outOf ns ops).length ≤ ops.length := List.length_filter_le _ _
theorem outOf_ok {ns : List Int} {ops : List Op} (ok : ∀ o ∈ ops, o.ok) : ∀ o ∈ outOf ns ops, o.ok := fun o h => ok o (List.mem_filter.mp h).1
theorem outOf_nil {ops : List Op} : outOf [] ops = ops := by simp [outOf]
theorem outOf_all {ops : List Op} : outOf (vals ops) ops = [] := by
  unfold outOf
  rw [List.filter_eq_nil_iff]
  intro o ho
  have : o.v ∈ vals ops := (vals_mem).mpr (List.mem_map.mpr ⟨o, ho, rfl⟩)
  simp [this]
def spWithout : Sp := fun vs H Q _ => ∃ (t b : Addr) (ops : List Op) (ns : List Int), vs = [.ref t, .ref b] ∧ LogAt H t ops ∧ ops.length ≤ 1000 ∧ H b = some (.tup (ns.map V.int)) ∧
  ∀ (c : Addr) (H' : Hp), Keep NoS H H' → LogAt H' c (outOf ns ops) → Q (.ref c) H'
theorem spWithout_arity {vs : List V} {H : Hp} {Q : VK} {E : XK} (h : spWithout vs H Q E) : vs.length = 2 := by obtain ⟨_, _, _, _, rfl, _⟩ := h; rfl
theorem o_ixTup {K : PySem.W.Frag} {Q : VK} {H : Hp} {a : Addr} {xs : List V} {v : V} {n : Nat} (e1 : H a = some (.tup xs)) (e2 : xs[n]? = some v) (h : Q v H) : rIx K (.ref a) (.int (n : Nat)) H Q := o_ixt e1 e2 h
/-- [o for slot i in a log if o[1] not in slot k] -/
theorem lc_out {K : PySem.W.Frag} {σ : LB.St} {H : Hp} {Q : VK} {t b : Addr} {ops : List Op} {ns : List Int} {s i k : Nat} (es : σ[s]? = some (some (.ref t))) (ek : σ[k]? = some (some (.ref b))) (n1 : k ≠ i) (li : i < σ.length) (lg : LogAt H t ops) (few : ops.length ≤ 1000) (hb : H b = some (.tup (ns.map V.int)))
    (q : ∀ (c : Addr) (H' : Hp), Keep NoS H H' → H c = none → OpsL H' c (outOf ns ops) → Q (.ref c) H') : tLc (iSeq K (tVar s)) (gName i) (tTest (tOp (rNiA K) (tOp (rIx K) (tVar i) (tC (V.int 1))) (tVar k))) (tVar i) [i] σ H Q := by
  refine lc_flt es li lg few (fun u o H2 Qb k2 _ hu hq => ?_) q
  have g1 : ((σ.set i none).set i (some (V.ref u)))[i]? = some (some (V.ref u)) := by simp [li]
  have g2 : ((σ.set i none).set i (some (V.ref u)))[k]? = some (some (V.ref b)) := by
    rw [List.getElem?_set_ne (Ne.symm n1), List.getElem?_set_ne (Ne.symm n1)]
    exact ek
  exact w_test (w_op (w_op (w_var g1 (w_c (o_ixt (n := 1) hu rfl (w_var g2 (o_niIntsT (k2.tup _ _ hb) ⟨_, rfl, hq⟩)))))))
/-- two logs in a list -/
theorem o_repr2Log {H : Hp} {Q : VK} {l a b : Addr} {ops : List Op} (e : H l = some (.lst [.ref a, .ref b])) (ea : LogAt H a ops) (eb : LogAt H b ops) (ok : ∀ o ∈ ops, o.ok) (few : ops.length ≤ 200)
    (q : Q (.str (PyData.list [.tuple (ops.map Op.dat), .tuple (ops.map Op.dat)]).shown) H) : rRepr [.ref l] H Q := by
  have nc := log_nice ok few
  refine o_repr (S := NoS) (n := 0) (k := 3) (w := 163602) (.lst id e (.cons ea.dd (.cons eb.dd .nil))) (nice_list (fun d hd => ?_) (fun d hd => ?_) ?_) (by omega) (by omega) (by omega) q
  · simp only [List.mem_cons, List.not_mem_nil, or_false] at hd
    rcases hd with rfl | rfl <;> exact nc.ok
  · simp only [List.mem_cons, List.not_mem_nil, or_false] at hd
    rcases hd with rfl | rfl <;> exact nc.dp
  · have := nc.wt
    simp only [PyData.weightAll]
    omega
/-- (log, list of ints) -/
theorem o_reprLI {H : Hp} {Q : VK} {l a b : Addr} {ops : List Op} {ns : List Int} (e : H l = some (.tup [.ref a, .ref b])) (ea : LogAt H a ops) (eb : H b = some (.lst (ns.map V.int))) (ok : ∀ o ∈ ops, o.ok) (few : ops.length ≤ 200) (h : ∀ n ∈ ns, n.natAbs ≤ 10 ^ 30) (few2 : ns.length ≤ 200)
    (q : Q (.str (PyData.tuple [.tuple (ops.map Op.dat), .list (ns.map PyData.int)]).shown) H) : rRepr [.ref l] H Q := by
  have nc := log_nice ok few
  have ni : Nice 0 1 20400 (.list (ns.map PyData.int)) := nice_list (ints_ok h).1 (ints_ok h).2 (by have := ints_wt h; omega)
  refine o_repr (S := NoS) (n := 0) (k := 3) (w := 163602) (.tup e (.cons ea.dd (.cons (.lst id eb ints_data) .nil))) (nice_tup (fun d hd => ?_) (fun d hd => ?_) ?_) (by omega) (by omega) (by omega) q
  · simp only [List.mem_cons, List.not_mem_nil, or_false] at hd
    rcases hd with rfl | rfl
    · exact nc.ok
    · exact ni.ok
  · simp only [List.mem_cons, List.not_mem_nil, or_false] at hd
    rcases hd with rfl | rfl
    · exact nc.dp
    · have := ni.dp
      omega
  · have h1 := nc.wt
    have h2 := ni.wt
    simp only [PyData.weightAll]
    omega
theorem cut1 {ns : List Int} : cutV (ns.map V.int) none (some 1) = (ns.take 1).map V.int := by
  cases ns with
  | nil => rfl
  | cons n ns =>
    unfold cutV
    rw [HT.sIx_none]
    have : HT.sIx ((n :: ns).map V.int).length ((n :: ns).map V.int).length (some 1) = 1 := by
      rw [show (1 : Int) = ((1 : Nat) : Int) from rfl, HT.sIx_nat]
      simp
    rw [this]
    simp
theorem o_sll {K : PySem.W.Frag} {Q : VK} {H : Hp} {a : Addr} {xs : List V} {lo hi : Option Int} (e : H a = some (.lst xs)) (h : ∀ p H1, New H H1 p (.lst (cutV xs lo hi)) → Q (.ref p) H1) : rSlAny K (.ref a) lo hi H Q :=
  .inl ⟨a, xs, rfl, .inl (.inl e), fun p hp => h p _ (.mk' hp)⟩
theorem flat_rep {k : Nat} {ns : List Int} : (List.replicate k (ns.map V.int)).flatten = ((List.replicate k ns).flatten).map V.int := by
  rw [List.map_flatten, List.map_replicate]
theorem eqv_ops : ∀ {ops : List Op}, PyData.eqvAll (ops.map Op.dat) (ops.map Op.dat) = true
  | [] => rfl
  | o :: ops => by
    simp only [List.map_cons, PyData.eqvAll, Op.dat, PyData.eqv, beq_self_eq_true, Bool.true_and]
    exact eqv_ops
/-- log == log -/
theorem o_eqLogs {K : PySem.W.Frag} {H : Hp} {Q : VK} {a b : Addr} {ops : List Op} (ea : LogAt H a ops) (eb : LogAt H b ops) (q : Q (.bl true) H) : rEqA K (.ref a) (.ref b) H Q := by
  have lay : ∀ d ∈ ops.map Op.dat, d.canLay0 = true ∧ d.depth ≤ 60 := fun d hd => by
    obtain ⟨o, _, rfl⟩ := List.mem_map.mp hd
    exact o.lay
  have all := canLayAll0_of fun d hd => (lay d hd).1
  obtain ⟨xs, hx, _⟩ := id ea
  obtain ⟨ys, hy, _⟩ := id eb
  obtain ⟨_, _, ex, hx', dx⟩ := (ea.dd (S := NoS)).tupX
  obtain ⟨_, _, ey, hy', dy⟩ := (eb.dd (S := NoS)).tupX
  cases ex
  cases ey
  refine .inr (.inr (.inr ⟨.tuple (ops.map Op.dat), .tuple (ops.map Op.dat), .tup (.inl (.inl hx')) (dds_dp dx all), .tup (.inl (.inl hy')) (dds_dp dy all), shaped_tuple lay, shaped_tuple lay, ?_⟩))
  simp only [PyData.eqv, eqv_ops]
  exact q
theorem o_eqE {K : PySem.W.Frag} {H : Hp} {Q : VK} {a b : Addr} {xs : List V} (ea : H a = some (.tup xs)) (eb : H b = some (.tup [])) (q : Q (.bl xs.isEmpty) H) : rEqA K (.ref a) (.ref b) H Q :=
  .inr (.inr (.inl ⟨a, b, xs, rfl, rfl, ea, eb, q⟩))
end LB

/-! Own layer: a lambda handed on from def to def; an exception caught and kept. -/
namespace LB
open PySem PySem.Spec PyProof.Rows L2 LamX

/-! ### heaps one behind the other, with other frames -/
theorem un_then {fs gs : List Addr} {H0 H1 H2 : Hp} {h0 h1 h2 : Heap} (a : Un fs [] H0 H1 h0 h1) (b : Un gs [] H1 H2 h1 h2) (sub : ∀ x ∈ gs, x ∈ fs ∨ h0.get? x = none) : Un fs [] H0 H2 h0 h2 where
  keep := fun x o e n hx z => by
    have nx : x ∉ gs := fun m => (sub x m).elim hx fun q => by rw [e] at q; cases q
    exact b.keep x o (a.keep x o e n hx z) (a.free x o e n z) nx z
  slot := fun x o e n hx z => by
    obtain ⟨l1, e1⟩ := a.slot x o e n hx z
    have n1 := a.free x o e n z
    by_cases m : x ∈ gs
    · obtain ⟨l2, e2⟩ := b.slot x _ e1 n1 m z
      exact ⟨l2, e2⟩
    · exact ⟨l1, b.keep x _ e1 n1 m z⟩
  free := fun x o e n z => by
    obtain ⟨o1, e1⟩ := a.there x o e z
    exact b.free x o1 e1 (a.free x o e n z) z
  there := fun x o e z => by
    obtain ⟨o1, e1⟩ := a.there x o e z
    exact b.there x o1 e1 z
  tups := fun x xs e => b.tups x xs (a.tups x xs e)
  frzs := fun x o u e => b.frzs x o u (a.frzs x o u e)
  tbls := fun x ps e => by
    obtain ⟨m1, e1⟩ := a.tbls x ps e
    obtain ⟨m2, e2⟩ := b.tbls x _ e1
    exact ⟨m1 ++ m2, by rw [e2, Array.append_assoc]⟩

/-! ### what the calling of the lambda at f does, anywhere behind (h0, H0) -/
abbrev TL := Hp → VK → XK → Prop
structure LamAt (P : Program) (w : World) (K : PySem.W.Frag) (mg : Str → Option Value) (base : Heap) (k : Nat) (f c' : Addr) (q : Str) (fs : List Addr) (h0 : Heap) (H0 : Hp) (tl : TL) : Prop where
  is : PySem.W.FnAt f h0
  no : H0 f = none
  nofs : f ∉ fs
  goes : ∀ (A : Around) (outer : List Env) (s1 : Shared) (HZ : Hp) (Q : VK) (E : XK), Un fs [] H0 HZ h0 s1.heap → Env0 P w K mg base A outer s1 HZ → Room (k + 1) A → A.guards = some [] →
    HZ c' = some (CodeO c' q) → tl HZ Q E → codeAny (model P w) A (.call (.ref f) ⟨[], []⟩) (CR (L2.CX P w) outer P w HZ s1 Q E) s1
section
variable {P : Program} {w : World} {K : PySem.W.Frag} {mg : Str → Option Value} {base : Heap} {k : Nat} {f c' : Addr} {q : Str} {fs gs : List Addr} {h0 h1 : Heap} {H0 H1 : Hp} {tl : TL}
theorem LamAt.step (l : LamAt P w K mg base k f c' q fs h0 H0 tl) (u : Un fs [] H0 H1 h0 h1) (sub : ∀ x ∈ gs, x ∈ fs ∨ h0.get? x = none) : LamAt P w K mg base k f c' q gs h1 H1 tl := by
  obtain ⟨oc, od, fd, sl, e⟩ := l.is
  have nn : f ∉ gs := fun m => (sub f m).elim l.nofs fun z => by rw [e] at z; cases z
  refine ⟨⟨oc, od, fd, sl, u.keep f _ e l.no l.nofs (fun z => nomatch z)⟩, u.free f _ e l.no (fun z => nomatch z), nn, ?_⟩
  intro A outer s1 HZ Q E un e0 hr hg hc ht
  exact l.goes A outer s1 HZ Q E (un_then u un sub) e0 hr hg hc ht
end
/-- the lambda just made in X: its body read as tb -/
theorem lam_at {X : Cx} {pins : List (Addr × Obj)} {σ : LB.St} {H : Hp} {s : Shared} {scope : Scope} {params : Arguments} {body : Expr} {pm ctv : Value} {f c' : Addr} {k : Nat} {tb : XK → TE}
    (I : L2.Inv X pins σ H s) (L : LamS X.env.scope scope) (obj : s.heap.get? f = some (PySem.W.kla_obj "<lambda>" (X.env.qual ++ "<lambda>") params body scope (cloFrom X.env.cells scope.names []) pm c' ctv)) (no : H f = none) (nofr : f ∉ frs X.stack)
    (bnd : bindArgs (PySem.W.kla_fn "<lambda>" (X.env.qual ++ "<lambda>") params body scope (cloFrom X.env.cells scope.names []) pm (.ref c') ctv) ⟨[], []⟩ = pure [])
    (der : ∀ (A : Around) (outer : List Env) (s1 : Shared) (HZ : Hp) (E : XK), Room k (A.deeper (lamEnv X scope s1.heap.objs.size f c')) → A.guards = some [] → PE (lamCx X A outer s1 HZ E scope f c') body (tb E)) :
    LamAt X.prog X.w X.K X.mg X.base k f c' (X.env.qual ++ "<lambda>") (frs X.stack) s.heap H (fun HZ Q E => tb E σ HZ Q) := by
  refine ⟨⟨_, _, _, _, obj⟩, no, nofr, fun A outer s1 HZ Q E un e0 hr hg hc ht => ?_⟩
  have obj1 : s1.heap.get? f = _ := un.keep f _ obj no nofr (fun z => nomatch z)
  obtain ⟨⟨oc, vs, t, g1, g2, g3⟩, _, _⟩ := e0.hok c' _ hc
  have lim : s1.heap.NoLimit := e0.mod.nolimit.keeps fun b o e => (e0.bs b o e).1
  refine PySem.W.kla_callFunE hr.depth obj1 rfl L.co L.gen rfl ⟨c', oc, vs, t, rfl, g1, g2, g3⟩ ?_
  rw [bnd]
  refine wpAny_pure (wpAny_newFunctionEnv (fun y hy => (L.own y hy).2) (fun y hy => nomatch hy) (fun h2 ns sb => ⟨lim.fresh _ sb, ?_⟩) L.kind)
  have J := lam_start2 (A := A) (outer := outer) (E := E) (f := f) (c' := c') (tk := s1.toks + ([] : List (Str × Value)).length) I L e0 hr.hd un ns
    (fun b o e => sb.extBut b o (Nat.ne_of_lt (Heap.lt_size e)) (Heap.get?_push_of_some _ e))
  refine PySem.W.kla_codeExpr (wpAny_mono ((der A outer s1 HZ E (hr.deeper _) hg).run [] _ _ HZ Q J ht) ?_ fun _ _ z => z)
  rintro v s2 ⟨v2, H2, J2, r2, q2⟩
  exact ⟨v2, H2, J2.os, J2.bare, J2.base, J2.hok, r2, q2⟩
/-- a(), a the name of a lambda that was known at the entry -/
def tAsk (i : Nat) (f c' : Addr) (q : Str) (tl : TL) (E : LB.St → XK) : TE := fun σ H Q => σ[i]? = some (some (.ref f)) ∧ H c' = some (CodeO c' q) ∧ tl H Q (E σ)
theorem pe_ask {X : Cx} {k i : Nat} {f c' : Addr} {q a : Str} {tl : TL} {E : LB.St → XK} {p1 p2 : Pos} (l : LamAt X.prog X.w X.K X.mg X.base k f c' q X.fs X.s_0.heap X.H_0 tl) (hex : X.ex = []) (hr : Room (k + 1) X.A) (gd : X.A.guards = some []) (hx : ∀ σ, PassesAt (L2.CX X.prog X.w) X σ (E σ))
    (hN : X.N[i]? = some a) (hv : Vis X.env.scope a) (hd : (a == ("__debug__" : Str)) = false := by decide) (hcd : (a == ("__classdict__" : Str)) = false := by decide) : PE X (.Call (.Name a p1) [] [] p2) (tAsk i f c' q tl E) := by
  constructor
  rintro pins s σ H Q I ⟨hs, hc, ht⟩
  have load := (pe_var (X := X) (pos := p1) (i := i) hN hv hd hcd).run pins s σ H (fun v H1 => v = .ref f ∧ H1 = H) I ⟨.ref f, hs, rfl, rfl⟩
  refine wpAny_Call_Name_kw (thn load ?_)
  rintro u s1 ⟨v, H1, I1, r1, rfl, rfl⟩
  obtain rfl : u = Value.ref f := r1
  have un : Un X.fs [] X.H_0 H1 X.s_0.heap s1.heap := by have b := I1.base; rw [hex] at b; exact b
  refine PySem.W.callWith_F0 (l.step (gs := X.fs) un fun x hx => .inl hx).is (wpAny_call (codeAny_mono (l.goes X.A X.stack s1 H1 Q (E σ) un I1.env0 hr gd hc ht) ?_))
  intro r' s' z
  match r', z with
  | .error _, z => exact hx σ _ _ _ _ _ I1 z
  | .ok (.ret _), z => exact I1.after z
  | .ok .next, z => exact False.elim z
  | .ok .brk, z => exact False.elim z
  | .ok .cont, z => exact False.elim z

/-! ### defs that get a lambda: a promise that may look at the state of the call -/
abbrev SpS := List Env → Shared → Sp
structure FnS (P : Program) (w : World) (K : PySem.W.Frag) (mg : Str → Option Value) (base : Heap) (CX : CXT) (k : Nat) (f : Addr) (fd : FuncData) (ps : List Str) (sp : SpS) : Prop where
  arity : ∀ o s vs H Q E, sp o s vs H Q E → vs.length = ps.length
  goes : ∀ (A : Around) (outer : List Env) (s : Shared) (H : Hp) (args : Args) (us : List Value) (vs : List V) (Q : VK) (E : XK), Room k A → A.guards = some [] → Env0 P w K mg base A outer s H →
    BindsTo s fd args (ps.zip us) → Vals vs us → sp outer s vs H Q E → codeAny (model P w) A (.call (.ref f) args) (CR CX outer P w H s Q E) s
/-- the code object of the def at f -/
def CodeIs (K : PySem.W.Frag) (f : Addr) (x qual : Str) (st : Stmt) (cdv : Value) : Prop := ∃ (oc : Value) (od : Option Addr) (kV doc pm : Value) (an : Option Addr) (ct : Value) (osl : Array (Option Value)),
  K.lookup f = some ⟨oc, od, .func (PySem.W.fnOf x qual (defArgs st) (defBody st) (defScope st) .none kV doc pm an cdv ct), osl⟩
section
variable {P : Program} {w : World} {K : PySem.W.Frag} {mg : Str → Option Value} {base : Heap} {CX : CXT}
theorem fn_s {x qual : Str} {st : Stmt} {f : Addr} {fd : FuncData} {N ps : List Str} {k : Nat} {sp : SpS} (F : Fun K x qual st f fd) (S : FnScope N ps (defScope st)) (ar : ∀ o s vs H Q E, sp o s vs H Q E → vs.length = ps.length)
    (bd : ∀ (cdv : Value) (A : Around) (outer : List Env) (s : Shared) (H : Hp) (vs : List V) (Q : VK) (E : XK), Room k (A.deeper (envOfC qual (defScope st) s.heap.objs.size f cdv)) → A.guards = some [] → CodeIs K f x qual st cdv → sp outer s vs H Q E →
      ∃ t, PSs (cxOf CX P w K mg base N qual (defScope st) f cdv A outer s H E) (defBody st) t ∧ t { nx := fun _ H' => Q .non H', rt := Q } (start N vs) H) : FnS P w K mg base CX (k + 1) f fd ps sp := by
  refine ⟨ar, fun A outer s H args us vs Q E room gd env0 binds vals hs => ?_⟩
  obtain ⟨_, _, _, _, _, _, cdv, _, _, efd, look, code⟩ := F.ex
  subst efd
  have KIn : K.In s.heap := env0.mod.kin.keeps fun a b c => (env0.bs a b c).1
  refine codeAny_call_function room.depth (KIn _ _ look) rfl S.co S.gen rfl (PySem.W.codeRec_of KIn code) (binds _ _ _ _ (wpAny_newFunctionEnv_cells S.kind (fun z hz => ?_) fun env henv s1 IC => ?_))
  · obtain ⟨n, u⟩ := z
    exact (S.par n (List.of_mem_zip hz).1).elim .inl fun h => .inr ⟨h, PySem.W.cellsFrom_some _ _ _ (.inl h)⟩
  · subst henv
    refine ⟨(env0.mod.nolimit.keeps fun a b c => (env0.bs a b c).1).keeps IC.toInCall.keep, codeAny_func ?_⟩
    obtain ⟨t, der, rd⟩ := bd cdv A outer s H vs Q E (room.deeper _) gd ⟨_, _, _, _, _, _, _, _, look⟩ hs
    refine wpAny_mono (der.run [] s1 (start N vs) H _ (inv_start S room.hd env0 (ar _ _ _ _ _ _ hs) vals IC) rd) (fun fl s2 h => ?_) fun _ _ z => z
    match fl, h with
    | .ret u, ⟨v, _, H2, J, r, q⟩ => exact ⟨v, H2, J.os, J.bare, J.base, J.hok, r, q⟩
    | .next, ⟨_, H2, J, q⟩ => exact ⟨V.non, H2, J.os, J.bare, J.base, J.hok, rfl, q⟩
    | .brk, ⟨_, _, _, q⟩ => exact False.elim q
    | .cont, ⟨_, _, _, q⟩ => exact False.elim q
end
theorem go_s {X : Cx} {CX : CXT} {k : Nat} {f : Addr} {fd : FuncData} {ps : List Str} {sp : SpS} {E : XK} {pins : List (Addr × Obj)} {σ : LB.St} {H : Hp} {s : Shared} {Q : VK} {args : Args} {us : List Value} {vs : List V}
    (F : FnS X.prog X.w X.K X.mg X.base CX k f fd ps sp) (hr : Room k X.A) (gd : X.A.guards = some []) (hx : Passes CX X E) (I : L2.Inv X pins σ H s) (bn : BindsTo s fd args (ps.zip us)) (r : Vals vs us) (h : sp X.stack s vs H Q E) :
    wpAny (model X.prog X.w) X.A (PySem.call (.ref f) args.pos args.kw) (EP X pins σ Q) X.xe s := by
  refine wpAny_call (codeAny_mono (F.goes X.A X.stack s H args us vs Q E hr gd I.env0 bn r h) fun r' s' z => ?_)
  match r', z with
  | .error _, z => exact hx _ _ _ _ _ _ I z
  | .ok (.ret _), z => exact I.after z
  | .ok .next, z => exact False.elim z
  | .ok .brk, z => exact False.elim z
  | .ok .cont, z => exact False.elim z
/-- of a def that gets a lambda first: what it does with it -/
def spLam (P : Program) (w : World) (K : PySem.W.Frag) (mg : Str → Option Value) (base : Heap) (k : Nat) (spL : TL → Sp) : SpS := fun o s vs H Q E =>
  ∃ (f c' : Addr) (q : Str) (tl : TL) (rest : List V), vs = .ref f :: rest ∧ LamAt P w K mg base k f c' q (frs o) s.heap H tl ∧ H c' = some (CodeO c' q) ∧ spL tl rest H Q E
structure CalL (P : Program) (w : World) (K : PySem.W.Frag) (mg : Str → Option Value) (base : Heap) (CX : CXT) (j k : Nat) (x : Str) (spL : TL → Sp) : Prop where
  is : ∃ (f : Addr) (fd : FuncData) (ps : List Str), FnS P w K mg base CX k f fd ps (spLam P w K mg base j spL) ∧ mg x = some (.ref f) ∧
    PySem.W.keepIn K (.ref f) = true ∧ ∀ us : List Value, us.length = ps.length → bindArgs fd ⟨us, []⟩ = pure (ps.zip us)
section
variable {X : Cx} {CX : CXT} {j k m i : Nat} {spL : TL → Sp} {x a : Str} {p pos p1 : Pos} {E : XK} {f c' : Addr} {q : Str} {tl : TL}
/-- x(a), a the name of a lambda that was known at the entry -/
def tPass (i : Nat) (f c' : Addr) (q : Str) (tl : TL) (spL : TL → Sp) (E : XK) : TE := fun σ H Q => σ[i]? = some (some (.ref f)) ∧ H c' = some (CodeO c' q) ∧ spL tl [] H Q E
theorem pe_pass (c : CalL X.prog X.w X.K X.mg X.base CX j k x spL) (l : LamAt X.prog X.w X.K X.mg X.base j f c' q X.fs X.s_0.heap X.H_0 tl) (hex : X.ex = []) (hr : Room m X.A) (hk : k ≤ m) (gd : X.A.guards = some []) (hx : Passes CX X E) (gl : Gl X x)
    (hN : X.N[i]? = some a) (hv : Vis X.env.scope a) (dbg : (x == ("__debug__" : Str)) = false := by decide) (hd : (a == ("__debug__" : Str)) = false := by decide) (hcd : (a == ("__classdict__" : Str)) = false := by decide) :
    PE X (.Call (.Name x p) [.Name a p1] [] pos) (tPass i f c' q tl spL E) := by
  obtain ⟨g, fd, ps, F, hm, kp, bn⟩ := c.is
  constructor
  rintro pins s σ H Q I ⟨hs, hc, ht⟩
  refine wpAny_Call_Name_kw (ld_glob I gl hm ?_ dbg)
  refine PySem.W.callWith_K (h₀ := X.base) I.ok.mod.kin kp ?_ (by rfl) (by rfl)
  have ha : PA X [.Name a p1] _ := pa_cons (pe_var (X := X) (pos := p1) (i := i) hN hv hd hcd) pa_nil
  refine thn (ha.run pos pins s σ H (fun vs H1 => vs = [.ref f] ∧ H1 = H) I ⟨.ref f, hs, rfl, rfl⟩) ?_
  rintro us s1 ⟨vs, H1, I1, r, rfl, rfl⟩
  have un : Un X.fs [] X.H_0 H1 X.s_0.heap s1.heap := by have b := I1.base; rw [hex] at b; exact b
  have l1 : LamAt X.prog X.w X.K X.mg X.base j f c' _ (frs X.stack) s1.heap H1 tl := l.step un fun b hb => by
    rcases List.mem_cons.mp (I1.stkSub b hb) with e | e
    · refine .inr ?_
      rw [e]
      exact Heap.get?_none_of_le I1.ok.above
    · exact .inl e
  have sp : spLam X.prog X.w X.K X.mg X.base j spL X.stack s1 [.ref f] H1 Q E := ⟨f, c', _, tl, [], rfl, l1, hc, ht⟩
  have hl : us.length = ps.length := by rw [← r.length]; exact F.arity _ _ _ _ _ _ sp
  exact ⟨I1.kIn, go_s (args := ⟨us, []⟩) F (hr.mono hk) gd hx I1 (BindsTo.of_eq (bn us hl)) r sp⟩
end
end LB

/-! Own layer: an exception caught, its object told from then on; a lambda made and handed over. -/
namespace LB
open PySem PySem.Spec PyProof.Rows L2 LamX

/-- an exception's object of the class cls, its fields at d, raised or not -/
def ExT (cls : Value) (d : Option Addr) (a : Addr) : HO := .ext fun h => ∃ (o : Obj) (vs : Array Value), h.get? a = some o ∧ Zc cls d o ∧ o.data = .fields vs
theorem ExT.ok {P : Program} {w : World} {H : Hp} {h : Heap} {a : Addr} {cls : Value} {d : Option Addr} {o : Obj} {vs : Array Value} (e : h.get? a = some o) (z : Zc cls d o) (dt : o.data = .fields vs) : ObjOk P w H h a (ExT cls d a) :=
  ⟨⟨o, vs, e, z, dt⟩, ⟨o, e⟩, fun _ _ ⟨p, v, q, r⟩ k => ⟨p, v, k p q, r⟩⟩
/-- an object laid since the entry and told nowhere is told from now on -/
theorem inv_tell {X : Cx} {pins : List (Addr × Obj)} {σ : LB.St} {H : Hp} {s : Shared} {a : Addr} {u : HO} {o : Obj} {vs : Array Value} (I : L2.Inv X pins σ H s) (no : H a = none) (e : s.heap.get? a = some o) (dt : o.data = .fields vs)
    (fresh : X.s_0.heap.get? a = none) (nL : a ≠ X.env.locals) (np : ∀ p ∈ X.pn ++ pins, p.1 ≠ a) (ok : ObjOk X.prog X.w (upd H a u) s.heap a u) : L2.Inv X pins σ (upd H a u) s := by
  have off : ∀ b, (∃ v, H b = some v) → upd H a u b = H b := fun b ⟨v, hv⟩ => upd_ne (ne_of_none hv no)
  have told : ∀ b v, H b = some v → upd H a u b = some v := fun b v hv => by rw [off b ⟨v, hv⟩]; exact hv
  have cellN : ∀ x c, X.env.cells.lookup x = some c → c ≠ a := fun x c hc z => by
    obtain ⟨v, oc, h1, h2⟩ := I.cell x c hc
    rw [z, e] at h1
    cases h1
    rw [dt] at h2
    cases h2
  refine ⟨I.ok, I.os, I.bare, ⟨I.base.keep, I.base.slot, fun b ob h1 h2 h3 => ?_, I.base.there, fun b xs h1 => told b _ (I.base.tups b xs h1), fun b ob v h1 => told b _ (I.base.frzs b ob v h1), fun b ps h1 => ?_⟩, I.loc, I.cell, ?_, fun x c hc => ?_, fun p hp => ?_, ?_, I.len⟩
  · have nb : b ≠ a := fun z => by rw [z, fresh] at h1; cases h1
    rw [upd_ne nb]
    exact I.base.free b ob h1 h2 h3
  · obtain ⟨m, h2⟩ := I.base.tbls b ps h1
    exact ⟨m, told b _ h2⟩
  · rw [upd_ne (Ne.symm nL)]
    exact I.free
  · rw [upd_ne (cellN x c hc)]
    exact I.freeC x c hc
  · obtain ⟨h1, h2, h3⟩ := I.pin p hp
    exact ⟨h1, by rw [upd_ne (np p hp)]; exact h2, h3⟩
  · exact I.hok.laidN (fun _ _ z => z) no ok
/-- what 'except x as n' wishes, where the suite only goes on: slot i is n's; the object is told behind it -/
def wKeep (K : PySem.W.Frag) (c : Value) (i : Nat) (ts : Addr → TS) (Wo : WX) (D : Ends) : WX := fun cls d σ H =>
  ∃ b, PySem.W.exmOne K cls c = some b ∧
    (b = true → ∀ a, H a = none → ts a { nx := fun σ' H' => D.nx (σ'.set i none) (upd H' a (ExT cls d a)), rt := fun _ _ => False, bk := fun _ _ => False, ct := fun _ _ => False } (σ.set i (some (.ref a))) H) ∧ (b = false → Wo cls d σ H)
section
variable {X : Cx} {x n : Str} {c : Value} {i : Nat} {body suite : List Stmt} {b₀ : Stmt} {np pos pos' : Pos} {tb : WX → TS} {ts : Addr → TS} {Wo : WX}
theorem ps_try_keep (hs : X.stack = X.env :: X.outer) (hf : X.env.frame = some X.env.locals) (hex : X.ex = []) (hN : X.N.Nodup) (hi : X.N[i]? = some n) (hln : X.env.kindOf n = some .local) (hc : Names X x c) (tk : Takes X Wo)
    (hb : ∀ (W : WX) (pn : List (Addr × Obj)) (xe : Value → Shared → Prop), Takes (X.tr pn xe) W → PSs (X.tr pn xe) body (tb W))
    (hsu : ∀ (a : Addr) (oe : Obj) (pn : List (Addr × Obj)), PSs (X.suite a ((a, oe) :: pn)) (b₀ :: suite) (ts a)) :
    PS X (.Try body [.ExceptHandler (some (.Name x np)) (some n) (b₀ :: suite) pos'] [] [] pos) (fun D σ H => tb (wKeep X.K c i ts Wo D) D σ H) := by
  constructor
  intro pins s σ H D I h
  have xok := I.ok
  have frX : X.A.frames = some (X.env :: X.outer) := xok.frames.trans (congrArg some hs)
  refine wpAny_Try_except (wpAny_mono ((hb (wKeep X.K c i ts Wo D) (X.pn ++ pins) (fun e t1 => wpAny (model X.prog X.w) X.A (noteFrame e X.env) (fun _ t2 => wpAny (model X.prog X.w) X.A (setFlight e none) (fun _ t3 =>
    wpAny (model X.prog X.w) X.A (handleBy e X.env [.ExceptHandler (some (.Name x np)) (some n) (b₀ :: suite) pos']) (SP X pins D) X.xe t3) X.xe t2) X.xe t1) ?caught).run [] s σ H D (I.toTry _) h) ?done fun _ _ z => z)
  case done =>
    intro fl t sp
    cases fl with
    | next => obtain ⟨σ1, H1, J, q⟩ := sp; exact wpAny_execs_nil ⟨σ1, H1, J.ofTry xok, q⟩
    | brk => obtain ⟨σ1, H1, J, q⟩ := sp; exact ⟨σ1, H1, J.ofTry xok, q⟩
    | cont => obtain ⟨σ1, H1, J, q⟩ := sp; exact ⟨σ1, H1, J.ofTry xok, q⟩
    | ret u => obtain ⟨v, σ1, H1, J, r, q⟩ := sp; exact ⟨v, σ1, H1, J.ofTry xok, r, q⟩
  case caught =>
    rintro u t ⟨a, B, sI, pins1, σ1, H1, cls, d, rfl, J0, ground, up, sky, na, os, ag, b, hb1, yes, no⟩
    have J : L2.Inv X pins σ1 H1 sI := J0.ofTry xok
    have sky1 : Sky B (X.env :: X.outer) a (Zc cls d) X.env.locals t.heap := by rw [← hs]; exact sky
    refine Sky.land (A := X.A) Zc.steady frX hf sky1 fun h3 fly3 up3 => ?_
    have J3 : L2.Inv X pins σ1 H1 { t with heap := h3 } := J.landed ground fly3.1 (up.trans up3) os ag
    obtain ⟨o3, vs3, e3, z3, dt3⟩ := fly3.there
    have nfr : a ∉ frs (X.env :: X.outer) := fun hm => by
      obtain ⟨_, o, eo, hn⟩ := fly3.2.2.1.mem hm
      rw [e3] at eo
      cases eo
      exact hn _ dt3
    have nL : a ≠ X.env.locals := fun z => nfr (List.mem_filterMap.mpr ⟨X.env, List.mem_cons_self, by rw [hf, z]⟩)
    have nF : a ∉ X.fs := fun hm => by
      obtain ⟨ev, h1, h2⟩ := List.mem_filterMap.mp hm
      exact nfr (List.mem_filterMap.mpr ⟨ev, List.mem_cons_of_mem _ h1, h2⟩)
    have noB : B.get? a = none := fly3.2.1
    have noFr : ∀ y, y ≠ X.env.locals → y ∉ X.fs → y ∉ frs X.stack := fun y h1 h2 hm => (List.mem_cons.mp (J.stkSub y hm)).elim h1 h2
    have fresh : X.s_0.heap.get? a = none := by
      cases q : X.s_0.heap.get? a with
      | none => rfl
      | some o =>
        obtain ⟨o1, q1⟩ := J.base.there a o q (by rw [hex]; exact fun z => nomatch z)
        have := ground a o1 q1 (noFr a nL nF)
        rw [noB] at this
        cases this
    have npin : ∀ p ∈ X.pn ++ pins, p.1 ≠ a := fun p hp z => by
      obtain ⟨q1, _, q2, q3, _⟩ := J.pin p hp
      have := ground p.1 p.2 q1 (noFr p.1 q2 q3)
      rw [z, noB] at this
      cases this
    refine wpAny_handleBy_cons (codeAny_handlers_test ?_) (fun z => nomatch z)
    have S3 := J3.suite e3 dt3 na nL nF
    have looks : PySem.W.Looks (model X.prog X.w) h3 (typeOf (.ref a)) cls := fun A Q E s k q => wpAny_typeOf_ref (k _ _ e3) (by rw [z3.1]; exact q)
    have match_ := PySem.W.exm_one (M := model X.prog X.w) J3.kIn looks hb1
    have named : ∀ {Q : Value → Shared → Prop} {E : Value → Shared → Prop}, Q c { t with heap := h3 } → wpAny (model X.prog X.w) (X.A.mark (some (.ref a))) (eval (.Name x np) X.env) Q E { t with heap := h3 } := fun {Q E} q => by
      obtain ⟨g1, g2, g3⟩ := hc
      rcases g3 with g3 | ⟨g3, g4, g5⟩
      · exact ld_glob (X := X.suite a ((a, o3) :: (X.pn ++ pins))) S3 g1 g3 q g2
      · exact ld_blt (X := X.suite a ((a, o3) :: (X.pn ++ pins))) S3 g1 g3 g4 q g5 g2
    refine named (match_.here ?_)
    match b, yes, no with
    | true, yes, _ =>
      refine codeAny_handlers_suite_as (HandSPX.lands_againZ fly3 fun h4 fly4 up4 => ?_)
      obtain ⟨o4, vs4, e4, z4, dt4⟩ := fly4.there
      have J4 : L2.Inv X pins σ1 H1 { t with heap := h4 } := J.landed ground fly4.1 ((up.trans up3).trans up4) os ag
      refine store_ok (X := X.suite a ((a, o4) :: (X.pn ++ pins))) (v := .ref a) (J4.suite e4 dt4 na nL nF) hN hi (.inl hln) rfl (fun s5 S5 => ?_) (.inr hln)
      refine wpAny_mono ((hsu a o4 (X.pn ++ pins)).run [] s5 _ H1 _ S5 (yes rfl a na)) (fun fl s6 sp => ?_) fun _ _ z => False.elim z
      match fl, sp with
      | .next, ⟨σ6, H6, S6, q6⟩ =>
        refine gone_ok (X := X.suite a ((a, o4) :: (X.pn ++ pins))) S6 hN hi hln fun s7 S7 => ?_
        obtain ⟨p1, p2, _⟩ := S7.pin (a, o4) (List.mem_append_left _ List.mem_cons_self)
        exact ⟨_, _, inv_tell (S7.unsuite xok) p2 p1 dt4 fresh nL npin (ExT.ok p1 z4 dt4), q6⟩
      | .brk, ⟨_, _, _, q6⟩ => exact False.elim q6
      | .cont, ⟨_, _, _, q6⟩ => exact False.elim q6
      | .ret u, ⟨_, _, _, _, _, q6⟩ => exact False.elim q6
    | false, _, no =>
      refine wpAny_handleBy_nil ?_
      obtain ⟨_, _, _, o, vs, T, oT, tt, f1, f2, f3, f4, f5⟩ := id fly3
      unfold PySem.passOn
      refine wpAny_bind (wpAny_field f1 f3 f4 ?_)
      rw [if_neg (show ¬ ((Value.ref T == Value.none) = true) from by simp)]
      have out : wpAny (model X.prog X.w) X.A (setFlight (.ref a) X.env.frame) (fun _ t4 => wpAny (model X.prog X.w) X.A (throw (.ref a) : Sem Flow) (SP X pins D) X.xe t4) X.xe { t with heap := h3 } := by
        rw [hf]
        exact HandSPX.setFlight_upZ fly3 fun h4 held up4 => wpAny_throw (tk _ _ ⟨a, B, sI, pins, σ1, H1, cls, d, rfl, J, ground, (up.trans up3).trans up4, .inr (.inr (by rw [hs]; exact held)), na, os, ag, no rfl⟩)
      first
        | exact wpAny_bind (wpAny_pure (wpAny_bind out))
        | exact wpAny_bind out
end
/-! ### x(lambda: body), x(lambda: body, y): the lambda is made and handed over -/
section
variable {X : Cx} {CX : CXT} {j k m i : Nat} {spL : TL → Sp} {x y : Str} {p pos lpos py : Pos} {E : XK} {T : List (Addr × Str)} {c P : Addr} {params : Arguments} {body : Expr} {scope : Scope} {t : XK → TE}
def tLamS (T : List (Addr × Str)) (spL : TL → Sp) (E : XK) (t : XK → TE) : TE := fun σ H Q => Tabs T H ∧ ∀ H1, ExtN H H1 → Tabs T H1 → spL (fun HZ Q' E' => t E' σ HZ Q') [] H1 Q E
def tLamS2 (T : List (Addr × Str)) (spL : TL → Sp) (E : XK) (i : Nat) (t : XK → TE) : TE := fun σ H Q => Tabs T H ∧ ∃ v, σ[i]? = some (some v) ∧ ∀ H1, ExtN H H1 → Tabs T H1 → spL (fun HZ Q' E' => t E' σ HZ Q') [v] H1 Q E
theorem pe_lamS (cl : CalL X.prog X.w X.K X.mg X.base CX j k x spL) (hr : Room m X.A) (hk : k ≤ m) (gd : X.A.guards = some []) (hx : Passes CX X E) (gl : Gl X x)
    (TB : TabB X.base X.mg c P) (hcode : X.env.code = .ref c) (hmT : (P, X.env.qual ++ "<lambda>") ∈ T) (hu : ∀ p ∈ T, p.1 = P → p.2 = X.env.qual ++ "<lambda>") (L : LamS X.env.scope scope) (hdef : defaultsOf params X.env = ([], []))
    (bnd : ∀ (q : Str) (cl : List (Str × Addr)) (pm cv ctv : Value), bindArgs (PySem.W.kla_fn "<lambda>" q params body scope cl pm cv ctv) ⟨[], []⟩ = pure [])
    (der : ∀ (A : Around) (outer : List Env) (s1 : Shared) (HZ : Hp) (E : XK) (f c' : Addr), Room j (A.deeper (lamEnv X scope s1.heap.objs.size f c')) → A.guards = some [] → PE (lamCx X A outer s1 HZ E scope f c') body (t E))
    (dbg : (x == ("__debug__" : Str)) = false := by decide) : PE X (.Call (.Name x p) [.Lambda params body scope lpos] [] pos) (tLamS T spL E t) := by
  obtain ⟨g, fd, ps, F, hm, kp, bn⟩ := cl.is
  constructor
  rintro pins s σ H Q I ⟨hT, h⟩
  refine wpAny_Call_Name_kw (ld_glob I gl hm ?_ dbg)
  refine PySem.W.callWith_K (h₀ := X.base) I.ok.mod.kin kp ?_ (by rfl) (by rfl)
  show wpAny _ _ (spliced ((false, eval (.Lambda params body scope lpos) X.env) :: backTo pos (starEach [] X.env))) _ _ s
  refine Calls.spliced_cons (lam_make2 I TB hcode hmT hu hT hdef (L.has I.ok) fun f c' pm' ctv H1 s1 I1 eN T1 o1 o2 o3 o4 => ?_)
  have l := lam_at (k := j) (tb := t) I1 L o1 o2 o3 (bnd _ _ _ _ _) fun A outer s2 HZ E2 r g => der A outer s2 HZ E2 f c' r g
  have sp : spLam X.prog X.w X.K X.mg X.base j spL X.stack s1 [.ref f] H1 Q E := ⟨f, c', _, _, [], rfl, l, o4, h H1 eN T1⟩
  have hl : ([.ref f] : List Value).length = ps.length := F.arity _ _ [V.ref f] _ _ _ sp
  exact Calls.spliced_nil ⟨I1.kIn, go_s (args := ⟨[.ref f], []⟩) F (hr.mono hk) gd hx I1 (BindsTo.of_eq (bn _ hl)) (vs := [V.ref f]) (.cons (show L2.RelV (V.ref f) (Value.ref f) from rfl) .nil) sp⟩
end
end LB

namespace LB
open PySem PySem.Spec PyProof.Rows L2
/-! ### own exceptions as values -/
/-- x.f, x such a value -/
def tExF (K : PySem.W.Frag) (f : Str) (te : TE) : TE := fun σ H Q => te σ H fun x H1 => ∃ (a C dx : Addr) (fs : List (Str × V)) (v : V), x = .ref a ∧ XfC K C ∧ PySem.W.findIn K (.ref C) f = some none ∧
  H1 a = some (exo a C (some dx)) ∧ H1 dx = some (exd dx fs) ∧ fs.lookup f = some v ∧ Q v H1
theorem pe_exf {X : Cx} {e : Expr} {te : TE} {pos : Pos} {f : Str} (he : PE X e te) (hb : attributeBase e f X.env (eval e X.env) = eval e X.env := by rfl) : PE X (.Attribute e f pos) (tExF X.K f te) := by
  constructor
  intro pins s σ H Q I h
  refine attr_of hb (thn (he.run pins s σ H _ I h) ?_)
  rintro u s1 ⟨x, H1, I1, rx, a, C, dx, fs, v, rfl, T, hno, ea, ed, l, q⟩
  cases rx
  obtain ⟨t1, ho⟩ := exo_at I1.hok ea
  obtain ⟨mA, hns, rel⟩ := exd_at I1.hok ed
  obtain ⟨od, hod, hl⟩ := lookIn_ns hns
  obtain ⟨w, hw, rw'⟩ := RelO.some_of (v := v) (o := mA f) (by rw [← l]; exact rel f)
  have J : PySem.W.InstAt s1.heap a ({ cls := .ref C, dict := some dx, data := .fields #[.ref t1, .none, .none, .none, .bool false, .none] } : Obj) C (some od) := ⟨ho, rfl, rfl, hod⟩
  exact HandSPX.exc_get I1.kIn J T.ga T.gg T.exC (PySem.W.findObj_own T.hdC hno rfl (by rw [hl, hw])) (handed_of rw') ⟨v, H1, I1.tok _, rw', q⟩
/-- C(e, ..), C's own __init__ keeping sp: the new exception -/
def tNewE (C : Addr) (sp : Sp) (ta : TA) : TE := fun σ H Q => ta σ H fun vs H1 => vs.length ≤ 1000 ∧ ∀ a, H1 a = none → sp (.ref a :: vs) (upd H1 a (exo a C none)) (fun v H2 => v = .non ∧ Q (.ref a) H2) (fun _ _ _ => False)
theorem pe_newE {X : Cx} {CX : CXT} {x : Str} {C fI : Addr} {k j : Nat} {fd : FuncData} {ps : List Str} {sp : Sp} {p pos : Pos} {e : Expr} {es : List Expr} {ta : TA} (T : OexC X.K C) (iC : PySem.W.findIn X.K (.ref C) "__init__" = some (some (.ref fI))) (tI : PySem.W.typeIn X.K (.ref fI) = some (.type "function"))
    (G1 : FnG X.prog X.w X.K X.mg X.base CX k fI fd ps sp) (hr : Room (j + 1) X.A) (hk : k ≤ j) (gd : X.A.guards = some []) (bn : ∀ us : List Value, us.length = ps.length → bindArgs fd ⟨us, []⟩ = pure (ps.zip us))
    (hx : Passes CX X (fun _ _ _ => False)) (hg : Gl X x) (hm : X.mg x = some (.ref C)) (ha : PA X (e :: es) ta)
    (hdb : (x == ("__debug__" : Str)) = false := by decide) (he : starEach (e :: es) X.env = (false, eval e X.env) :: starEach es X.env := by rfl) (hpl : (backTo pos (starEach es X.env)).any (·.1) = false := by rfl) :
    PE X (.Call (.Name x p) (e :: es) [] pos) (tNewE C sp ta) := by
  constructor
  intro pins s σ H Q I h
  obtain ⟨nm, q, N, bs, bm, sn, sub, ab, col, dd, k0, k1, k2, k3, k5, hC, hbm⟩ := T.cls
  refine wpAny_Call_Name_kw (ld_glob I hg hm ?_ hdb)
  refine PySem.W.callWith_K (h₀ := X.base) I.ok.mod.kin T.kC (thn (ha.run pos pins s σ H _ I h) ?_) he hpl
  rintro us s1 ⟨vs, H1, I1, r1, hz, q1⟩
  refine ⟨I1.kIn, ?_⟩
  show wpAny _ _ (call (.ref C) us) _ _ _
  obtain ⟨hp, g, dr, tk, os⟩ := s1
  let a := hp.objs.size + 1
  have up : hp.objs.size ≤ a := Nat.le_succ _
  have fresh : H1 a = none := I1.hok.fresh up
  have hq := q1 a fresh
  let h2 := (hp.push (PySem.W.kdv_tup us)).push (PySem.HandSPX.excO C hp.objs.size)
  have old : ∀ b o, hp.get? b = some o → h2.get? b = some o := fun b o z => Heap.get?_push_of_some _ (Heap.get?_push_of_some _ z)
  have at_ : h2.get? a = some (PySem.HandSPX.excO C hp.objs.size) := by
    show ((hp.push _).push _).get? (hp.objs.size + 1) = _
    heap_get
  have I2 : L2.Inv X pins σ (upd H1 a (exo a C none)) ⟨h2, g, dr, tk, os⟩ := I1.laid (t' := tk) (a := a) (o := exo a C none) (h' := h2) old up (exo_ok at_)
  have rv : Vals (V.ref a :: vs) (Value.ref a :: us) := .cons rfl r1
  have hl : (Value.ref a :: us).length = ps.length := by rw [← rv.length]; exact G1.arity _ _ _ _ hq
  have hus : us.length ≤ sizeLine := by
    rw [← Paired.length r1]
    exact Nat.le_trans hz (by decide)
  refine wpAny_call (PySem.HandSPX.call_own PySem.F.excBase_ValueError (fun Y => PySem.HandSPX.refsVE_contains Y bm hbm) (I1.kIn _ _ hC) (PySem.W.looks_findIn I1.kIn iC) (fun self => PySem.W.bind_fn I1.kIn self tI) hus ?_)
  refine codeAny_mono (G1.goes _ X.stack _ _ ⟨Value.ref a :: us, []⟩ (Value.ref a :: us) _ _ (fun _ _ _ => False) ((hr.make C us []).mono hk) gd (I2.env0.make C us []) (BindsTo.of_eq (bn _ hl)) rv hq) ?_
  intro r s' z
  match r, z with
  | .error er, z => exact hx pins σ _ _ er s' I2 z
  | .ok (.ret u), z =>
    obtain ⟨v, H2, J, rr, ev, q2⟩ := I2.after z
    subst ev
    exact ⟨rr, .ref a, H2, J, rfl, q2⟩
  | .ok .next, z => exact False.elim z
  | .ok .brk, z => exact False.elim z
  | .ok .cont, z => exact False.elim z
/-- isinstance(x, c), x such a value -/
def rIsO (K : PySem.W.Frag) : List V → Hp → VK → Prop := fun xs H Q => ∃ (a C : Addr) (d : Option Addr) (c : V) (cv : Value) (b : Bool), xs = [.ref a, c] ∧ ExcC K C ∧ H a = some (exo a C d) ∧ (∀ dx, d = some dx → ∃ fs, H dx = some (exd dx fs)) ∧
  (∀ u, RelV c u → u = cv) ∧ PySem.W.kitOne K (.ref C) cv = some b ∧ Q (.bl b) H
theorem call_isO {X : Cx} : CallR X (.builtin "isinstance") (rIsO X.K) := by
  intro pins s σ H xs us Q I r h
  obtain ⟨a, C, d, c, cv, b, rfl, T, ea, hd, hcv, e, q⟩ := h
  cases r with
  | cons rx rr =>
    cases rr with
    | cons rt rr =>
      cases rr
      cases rx
      have ec := hcv _ rt
      subst ec
      obtain ⟨t1, ho⟩ := exo_at I.hok ea
      obtain ⟨od, J⟩ : ∃ od, PySem.W.InstAt s.heap a ({ cls := .ref C, dict := d, data := .fields #[.ref t1, .none, .none, .none, .bool false, .none] } : Obj) C od := by
        cases d with
        | none => exact ⟨none, ho, rfl, rfl, trivial⟩
        | some dx =>
          obtain ⟨fs, ed⟩ := hd dx rfl
          obtain ⟨mA, hns, _⟩ := exd_at I.hok ed
          obtain ⟨od, hod, _⟩ := lookIn_ns hns
          exact ⟨some od, ho, rfl, rfl, hod⟩
      have hcl : (PySem.W.clsIn X.K C).isSome = true := by
        obtain ⟨cd, hc, _⟩ := PySem.W.any_some T.hd
        rw [hc]
        rfl
      exact PySem.W.kia_one (PySem.W.kitx_exc hcl T.hg T.hk T.hs T.ha T.hn T.ht T.hm) I.kIn J e (fun z => nomatch z) fun tk => ⟨.bl b, H, I.kept (t' := tk) fun _ _ z => z, rfl, q⟩
end LB

/-! Own layer: an own exception made and raised, its fields and classes looked at once it is caught. -/
namespace LB
open PySem PySem.Spec PyProof.Rows L2 LamX
/-- raise C(e, ..): C's own __init__ keeping sp -/
def tMkG (C : Addr) (sp : Sp) (ta : TA) : LB.St → Hp → XK → Prop := fun σ H Q => ta σ H fun vs H1 => vs.length ≤ 1000 ∧ ∀ a, H1 a = none →
  sp (.ref a :: vs) (upd H1 a (exo a C none)) (fun v H2 => v = .non ∧ ∃ (d : Addr) (fs : List (Str × V)), H2 a = some (exo a C (some d)) ∧ H2 d = some (exd d fs) ∧ H1 d = none ∧ Q (.ref C) (some d) (upd (del H2 a) d (.xd fs))) (fun _ _ _ => False)
theorem pmk_g {X : Cx} {CX : CXT} {x : Str} {C fI : Addr} {k j : Nat} {fd : FuncData} {ps : List Str} {sp : Sp} {p pos : Pos} {e : Expr} {es : List Expr} {ta : TA} (T : OexC X.K C) (iC : PySem.W.findIn X.K (.ref C) "__init__" = some (some (.ref fI))) (tI : PySem.W.typeIn X.K (.ref fI) = some (.type "function"))
    (G1 : FnG X.prog X.w X.K X.mg X.base CX k fI fd ps sp) (hr : Room (j + 1) X.A) (hk : k ≤ j) (gd : X.A.guards = some []) (bn : ∀ us : List Value, us.length = ps.length → bindArgs fd ⟨us, []⟩ = pure (ps.zip us))
    (hx : Passes CX X (fun _ _ _ => False)) (hg : Gl X x) (hm : X.mg x = some (.ref C)) (ha : PA X (e :: es) ta)
    (hdb : (x == ("__debug__" : Str)) = false := by decide) (he : starEach (e :: es) X.env = (false, eval e X.env) :: starEach es X.env := by rfl) (hpl : (backTo pos (starEach es X.env)).any (·.1) = false := by rfl) :
    PMk X (.Call (.Name x p) (e :: es) [] pos) (tMkG C sp ta) := by
  intro pins s σ H Q I h
  obtain ⟨nm, q, N, bs, bm, sn, sub, ab, col, dd, k0, k1, k2, k3, k5, hC, hbm⟩ := T.cls
  refine wpAny_Call_Name_kw (ld_glob I hg hm ?_ hdb)
  refine PySem.W.callWith_K (h₀ := X.base) I.ok.mod.kin T.kC (thn (ha.run pos pins s σ H _ I h) ?_) he hpl
  rintro us s1 ⟨vs, H1, I1, r1, hz, q1⟩
  refine ⟨I1.kIn, ?_⟩
  show wpAny _ _ (call (.ref C) us) _ _ _
  obtain ⟨hp, g, dr, tk, os⟩ := s1
  let a := hp.objs.size + 1
  have up : hp.objs.size ≤ a := Nat.le_succ _
  have hq := q1 a (I1.hok.fresh up)
  let h2 := (hp.push (PySem.W.kdv_tup us)).push (PySem.HandSPX.excO C hp.objs.size)
  have old : ∀ b o, hp.get? b = some o → h2.get? b = some o := fun b o z => Heap.get?_push_of_some _ (Heap.get?_push_of_some _ z)
  have at_ : h2.get? a = some (PySem.HandSPX.excO C hp.objs.size) := by
    show ((hp.push _).push _).get? (hp.objs.size + 1) = _
    heap_get
  have I2 : L2.Inv X pins σ (upd H1 a (exo a C none)) ⟨h2, g, dr, tk, os⟩ := I1.laid (t' := tk) (a := a) (o := exo a C none) (h' := h2) old up (exo_ok at_)
  have rv : Vals (V.ref a :: vs) (Value.ref a :: us) := .cons rfl r1
  have hl : (Value.ref a :: us).length = ps.length := by rw [← rv.length]; exact G1.arity _ _ _ _ hq
  have hus : us.length ≤ sizeLine := by
    rw [← Paired.length r1]
    exact Nat.le_trans hz (by decide)
  refine wpAny_call (PySem.HandSPX.call_own PySem.F.excBase_ValueError (fun Y => PySem.HandSPX.refsVE_contains Y bm hbm) (I1.kIn _ _ hC) (PySem.W.looks_findIn I1.kIn iC) (fun self => PySem.W.bind_fn I1.kIn self tI) hus ?_)
  refine codeAny_mono (G1.goes _ X.stack _ _ ⟨Value.ref a :: us, []⟩ (Value.ref a :: us) _ _ (fun _ _ _ => False) ((hr.make C us []).mono hk) gd (I2.env0.make C us []) (BindsTo.of_eq (bn _ hl)) rv hq) ?_
  intro r s' z
  match r, z with
  | .error er, z => exact hx pins σ _ _ er s' I2 z
  | .ok (.ret u), ⟨v, H2, os2, bare2, un2, hok2, rr, ev, d, fs, ea, ed, nd, q2⟩ =>
    subst ev
    obtain ⟨hp2, g2, d2, t2, os'⟩ := s'
    exact ⟨rr, mk_end (raises_own T.exC T.tyC) I1 up old un2 hok2 os2 bare2 ea ed nd q2⟩
  | .ok .next, z => exact False.elim z
  | .ok .brk, z => exact False.elim z
  | .ok .cont, z => exact False.elim z
/-- x.f, x an exception that was caught -/
def tXtF (K : PySem.W.Frag) (f : Str) (te : TE) : TE := fun σ H Q => te σ H fun x H1 => ∃ (a C dx : Addr) (fs : List (Str × V)) (v : V), x = .ref a ∧ XfC K C ∧ PySem.W.findIn K (.ref C) f = some none ∧
  H1 a = some (ExT (.ref C) (some dx) a) ∧ H1 dx = some (.xd fs) ∧ fs.lookup f = some v ∧ Q v H1
theorem pe_xtf {X : Cx} {e : Expr} {te : TE} {pos : Pos} {f : Str} (he : PE X e te) (hb : attributeBase e f X.env (eval e X.env) = eval e X.env := by rfl) : PE X (.Attribute e f pos) (tXtF X.K f te) := by
  constructor
  intro pins s σ H Q I h
  refine attr_of hb (thn (he.run pins s σ H _ I h) ?_)
  rintro u s1 ⟨x, H1, I1, rx, a, C, dx, fs, v, rfl, T, hno, ea, ed, l, q⟩
  cases rx
  obtain ⟨⟨o, ws, ho, ⟨hc, hd⟩, hdt⟩, _, _⟩ := I1.hok a _ ea
  obtain ⟨mA, hns, rel⟩ := I1.hok dx _ ed
  obtain ⟨od, hod, hl⟩ := lookIn_ns hns
  obtain ⟨w, hw, rw'⟩ := RelO.some_of (v := v) (o := mA f) (by rw [← l]; exact rel f)
  have J : PySem.W.InstAt s1.heap a o C (some od) := ⟨ho, hc, by unfold PySem.W.notCls; rw [hdt], by rw [hd]; exact hod⟩
  exact HandSPX.exc_get I1.kIn J T.ga T.gg T.exC (PySem.W.findObj_own T.hdC hno rfl (by rw [hl, hw])) (handed_of rw') ⟨v, H1, I1.tok _, rw', q⟩
/-- isinstance(x, c), x such a value -/
def rIsT (K : PySem.W.Frag) : List V → Hp → VK → Prop := fun xs H Q => ∃ (a C dx : Addr) (fs : List (Str × V)) (c : V) (cv : Value) (b : Bool), xs = [.ref a, c] ∧ ExcC K C ∧ H a = some (ExT (.ref C) (some dx) a) ∧ H dx = some (.xd fs) ∧
  (∀ u, RelV c u → u = cv) ∧ PySem.W.kitOne K (.ref C) cv = some b ∧ Q (.bl b) H
theorem call_isT {X : Cx} : CallR X (.builtin "isinstance") (rIsT X.K) := by
  intro pins s σ H xs us Q I r h
  obtain ⟨a, C, dx, fs, c, cv, b, rfl, T, ea, ed, hcv, e, q⟩ := h
  match us, r with
  | [u1, u2], .cons rx (.cons rt .nil) =>
    cases rx
    have ec := hcv _ rt
    subst ec
    obtain ⟨⟨o, ws, ho, ⟨hc, hd⟩, hdt⟩, _, _⟩ := I.hok a _ ea
    obtain ⟨mA, hns, _⟩ := I.hok dx _ ed
    obtain ⟨od, hod, _⟩ := lookIn_ns hns
    have J : PySem.W.InstAt s.heap a o C (some od) := ⟨ho, hc, by unfold PySem.W.notCls; rw [hdt], by rw [hd]; exact hod⟩
    have hcl : (PySem.W.clsIn X.K C).isSome = true := by
      obtain ⟨cd, hc, _⟩ := PySem.W.any_some T.hd
      rw [hc]
      rfl
    exact PySem.W.kia_one (PySem.W.kitx_exc hcl T.hg T.hk T.hs T.ha T.hn T.ht T.hm) I.kIn J e (fun z => nomatch z) fun tk => ⟨.bl b, H, I.kept (t' := tk) fun _ _ z => z, rfl, q⟩
/-! ### try: ask() / except X as e: kept = e, and what calls this -/
/-- the wish of such a def -/
def spCaught (K : PySem.W.Frag) (CS : Addr) : TL → Sp := fun tl rest H Q _ => rest = [] ∧
  tl H (fun _ H' => Q .non H') fun cls d H' => PySem.W.exmOne K cls (.ref CS) = some true ∧ ∀ a, H' a = none → Q (.ref a) (upd H' a (ExT cls d a))
end LB

open PySem PySem.Spec PyProof.Rows L2 LB
/-! the tactic: one step of a reading; many -/
local macro_rules | `(tactic| walk_at "w1_14") => `(tactic| first
  | with_reducible refine w_seq ?_ | with_reducible refine w_asg ?_ | with_reducible refine w_drop ?_ | with_reducible refine w_ret ?_ | with_reducible refine w_next ?_
  | with_reducible refine w_ifs ?_ | with_reducible refine w_forR1 ?_ | with_reducible refine w_forR2 ?_ | with_reducible refine w_forL ?_ | with_reducible refine w_forT ?_ | with_reducible refine w_name ?_ | with_reducible refine w_sub ?_ | with_reducible refine w_par ?_
  | with_reducible refine w_var (by with_unfolding_all rfl) ?_ | with_reducible refine w_c ?_ | with_reducible refine w_op ?_ | with_reducible refine w_un ?_
  | with_reducible refine w_test ?_ | with_reducible refine w_tb ?_ | with_reducible refine w_nil ?_ | with_reducible refine w_cons ?_ | with_reducible refine w_cb ?_ | with_reducible refine w_call ?_
  | with_reducible refine w_not ?_ | with_reducible refine w_and ?_ | with_reducible refine w_or ?_ | with_reducible refine w_andV ?_ | with_reducible refine w_orV ?_ | with_reducible refine w_notV ?_
  | with_reducible refine w_ife ?_ | with_reducible refine w_chain ?_ | with_reducible refine w_bm ?_ | with_reducible refine w_sl ?_ | with_reducible refine w_part ?_ | with_reducible refine w_nopart ?_
  | with_reducible refine w_exb ?_ | with_reducible refine w_exi ?_ | with_reducible refine w_ex2 ?_ | with_reducible refine w_ex3 ?_ | with_reducible refine w_lstrg ?_ | with_reducible refine w_rg2 ?_ | with_reducible refine w_rg1 ?_ | with_reducible refine w_exij ?_ | with_reducible refine w_tup ?_ | with_reducible refine w_lst ?_
  | with_reducible refine o_add ?_ | with_reducible refine o_sub ?_ | with_reducible refine o_neg ?_ | with_reducible refine o_lt ?_ | with_reducible refine o_le ?_ | with_reducible refine o_gt ?_ | with_reducible refine o_ge ?_
  | with_reducible refine o_ixL (by assumption) (by decide) (by with_unfolding_all rfl) ?_ | with_reducible refine o_ixT (by assumption) (by decide) (by with_unfolding_all rfl) ?_
  | with_reducible refine o_mod (by first | decide | omega) ?_ | with_reducible refine o_mul (by first | decide | omega) ?_ | with_reducible refine o_fdv (by first | decide | omega) (by first | decide | omega) ?_ | with_reducible refine o_setL (by assumption) (by decide) (by simp) ?_
  | with_reducible refine oo_addi ?_ | with_reducible refine oo_sub ?_ | with_reducible refine oo_neg ?_ | with_reducible refine w_rev ?_ | with_reducible refine w_m0 ?_
  | with_reducible refine w_par3 ?_ | with_reducible refine w_tyl (by assumption) ?_
  | with_reducible refine o_abs ?_ | with_reducible refine o_eqs (by with_unfolding_all rfl) ?_ | with_reducible refine o_nes (by with_unfolding_all rfl) ?_ | with_reducible refine o_max2 ?_ | with_reducible refine o_min2 ?_ | with_reducible refine o_isiX (by assumption) ?_ | with_reducible refine o_lenl (by assumption) ?_ | with_reducible refine o_lent (by assumption) ?_ | with_reducible refine o_int1b ?_)
local macro_rules | `(tactic| walk_at "ws_14") => `(tactic| repeat (first | walk_at "w1_14" | dsimp only [List.set_cons_zero, List.set_cons_succ]))
namespace LB
open LamX
/-! ### promises that may raise -/
theorem fng_lift {P : Program} {w : World} {K : PySem.W.Frag} {mg : Str → Option Value} {base : Heap} {CX : CXT} {k : Nat} {f : Addr} {fd : FuncData} {ps : List Str} {sp : Sp} (F : FnG P w K mg base CX0 k f fd ps sp) : FnG P w K mg base CX k f fd ps sp :=
  ⟨F.arity, fun A outer s H args us vs Q E r g e b v h => codeAny_mono (F.goes A outer s H args us vs Q E r g e b v h) fun r' s' z => by
    match r', z with
    | .ok (.ret u), z => exact z
    | .error e, z => exact False.elim z⟩
theorem fng_more {P : Program} {w : World} {K : PySem.W.Frag} {mg : Str → Option Value} {base : Heap} {CX : CXT} {j k : Nat} {f : Addr} {fd : FuncData} {ps : List Str} {sp : Sp} (F : FnG P w K mg base CX j f fd ps sp) (h : j ≤ k) : FnG P w K mg base CX k f fd ps sp :=
  ⟨F.arity, fun A outer s H args us vs Q E r => F.goes A outer s H args us vs Q E (r.mono h)⟩
def spOr (a b : Sp) : Sp := fun vs H Q E => a vs H Q E ∨ b vs H Q E
theorem fng_or {P : Program} {w : World} {K : PySem.W.Frag} {mg : Str → Option Value} {base : Heap} {CX : CXT} {k : Nat} {f : Addr} {fd : FuncData} {ps : List Str} {a b : Sp} (F : FnG P w K mg base CX k f fd ps a) (G : FnG P w K mg base CX k f fd ps b) : FnG P w K mg base CX k f fd ps (spOr a b) :=
  ⟨fun vs H Q E h => h.elim (F.arity vs H Q E) (G.arity vs H Q E), fun A outer s H args us vs Q E r g e bn v h => h.elim (F.goes A outer s H args us vs Q E r g e bn v) (G.goes A outer s H args us vs Q E r g e bn v)⟩
theorem pss_no {X : Cx} {ss : List Stmt} : PSs X ss tNever := ⟨fun _ _ _ _ _ _ h => False.elim h⟩
def tRaise (C : Addr) (sp : Sp) (ta : TA) (E : XK) : TS := fun _ σ H => tMkG C sp ta σ H fun cls d H' => E cls d H'
theorem ps_raiseG {X : Cx} {C : Addr} {sp : Sp} {ta : TA} {E : XK} {e : Expr} {pos : Pos} (hc : X.calm = true) (tk : Takes X (fun cls d _ H => E cls d H)) (he : PMk X e (tMkG C sp ta)) : PS X (.Raise (some e) none pos) (tRaise C sp ta E) := ps_raise hc tk he
/-- an own exception's __init__ that keeps its one argument under f -/
def spIn (K : PySem.W.Frag) (f : Str) : Sp := fun vs H Q _ => ∃ (a C : Addr) (v : V), vs = [.ref a, v] ∧ H a = some (exo a C none) ∧ OexC K C ∧ PySem.W.findIn K (.ref C) f = some none ∧
  ∀ dx, H dx = none → dx ≠ a → Q .non (upd (upd H dx (exd dx [(f, v)])) a (exo a C (some dx)))
theorem spIn_arity {K : PySem.W.Frag} {f : Str} {vs : List V} {H : Hp} {Q : VK} {E : XK} (h : spIn K f vs H Q E) : vs.length = 2 := by obtain ⟨_, _, _, rfl, _⟩ := h; rfl
/-- C is raised with x under f, all else as at H -/
def Raised (C : Addr) (f : Str) (x : V) (H : Hp) (E : XK) : Prop := ∀ (d : Addr) (H' : Hp), Keep NoS H H' → H d = none → H' d = some (.xd [(f, x)]) → E (.ref C) (some d) H'
theorem Raised.keep {C : Addr} {f : Str} {x : V} {H H1 : Hp} {E : XK} (h : Raised C f x H E) (k : Keep NoS H H1) : Raised C f x H1 E := fun d H' k' n e => by
  refine h d H' (k.trans k') ?_ e
  cases q : H d with
  | none => rfl
  | some o => rw [k.all d o id q] at n; cases n
theorem o_raise {K : PySem.W.Frag} {C : Addr} {f : Str} {x : V} {σ : LB.St} {H : Hp} {E : XK} {i : Nat} {D : Ends} (T : OexC K C) (hf : PySem.W.findIn K (.ref C) f = some none) (e : σ[i]? = some (some x)) (h : Raised C f x H E) : tRaise C (spIn K f) (tCons (tVar i) tNil) E D σ H := by
  refine ⟨x, e, show 1 ≤ 1000 by decide, fun a na => ⟨a, C, x, rfl, upd_same, T, hf, fun dx nd ne => ⟨rfl, dx, [(f, x)], upd_same, ?_, ?_, ?_⟩⟩⟩
  · rw [upd_ne ne, upd_same]
  · rw [upd_ne ne] at nd; exact nd
  · have nd' : H dx = none := by rw [upd_ne ne] at nd; exact nd
    have k : ∀ b o, H b = some o → upd (del (upd (upd (upd H a (exo a C none)) dx (exd dx [(f, x)])) a (exo a C (some dx))) a) dx (.xd [(f, x)]) b = some o := fun b o q => by
      have n1 : b ≠ a := ne_of_none q na
      have n2 : b ≠ dx := ne_of_none q nd'
      rw [upd_ne n2, del_ne n1, upd_ne n1, upd_ne n2, upd_ne n1]
      exact q
    exact h dx _ ⟨fun b o _ q => k b o q, fun b xs q => k b _ q⟩ nd' upd_same
/-- no value of the log -/
def NotIn (d : PyData) (ops : List Op) : Prop := ∀ i, d = .int i → i ∉ vals ops
def spDemR (C : Addr) : Sp := fun vs H _ E => ∃ (t : Addr) (ops : List Op) (x : V) (d : PyData) (S : Addr → Prop), vs = [.ref t, x] ∧ LogAt H t ops ∧ ops.length ≤ 200 ∧ DD S H x d ∧ NotIn d ops ∧ Raised C "value" x H E
theorem spDemR_arity {C : Addr} {vs : List V} {H : Hp} {Q : VK} {E : XK} (h : spDemR C vs H Q E) : vs.length = 2 := by obtain ⟨_, _, _, _, _, rfl, _⟩ := h; rfl
def spBefR (C : Addr) : Sp := fun vs H _ E => ∃ (t : Addr) (ops : List Op) (tol : Int) (x y : V), vs = [.ref t, .int tol, x, y] ∧ LogAt H t ops ∧ ops.length ≤ 200 ∧
  ((∃ (d : PyData) (S : Addr → Prop), DD S H x d ∧ NotIn d ops ∧ Raised C "value" x H E) ∨ ∃ u : Int, x = .int u ∧ u ∈ vals ops ∧ ∃ (d : PyData) (S : Addr → Prop), DD S H y d ∧ NotIn d ops ∧ Raised C "value" y H E)
theorem spBefR_arity {C : Addr} {vs : List V} {H : Hp} {Q : VK} {E : XK} (h : spBefR C vs H Q E) : vs.length = 4 := by obtain ⟨_, _, _, _, _, rfl, _⟩ := h; rfl
def tR_demand_value (K : PySem.W.Frag) (C : Addr) (E : XK) : TS :=
  (tIfS (tOr (tNot (tB (tCall spIsInt [] E0 (tCons (tVar 1) tNil)))) (tTest (tOp (rNiA K) (tVar 1) (tCall spValues [] E0 (tCons (tVar 0) tNil)))))
    (tRaise C (spIn K "value") (tCons (tVar 1) tNil) E) tNext)
theorem pureR_demand_value {K : PySem.W.Frag} {C : Addr} {vs : List V} {H : Hp} {Q : VK} {E : XK} (T : OexC K C) (hf : PySem.W.findIn K (.ref C) "value" = some none) (h : spDemR C vs H Q E) : tR_demand_value K C E { nx := fun _ H' => Q .non H', rt := Q } (start ["log", "value"] vs) H := by
  obtain ⟨t, ops, x, d, S, rfl, lg, few, dd, no, rd⟩ := h
  show tR_demand_value K C E _ [some (.ref t), some x] H
  unfold tR_demand_value
  walk_at "ws_14"
  refine ⟨x, d, S, rfl, dd, ?_⟩
  walk_at "ws_14"
  cases d with
  | int i =>
    have := dd.intX
    subst this
    refine w_iteF rfl ?_
    walk_at "ws_14"
    refine ⟨t, ops, rfl, lg, few, fun p H' k _ hp => ?_⟩
    refine o_niIntsT hp ?_
    walk_at "ws_14"
    refine w_iteT (by simp [no i rfl]) ?_
    exact o_raise T hf (by rfl) (rd.keep k)
  | _ =>
    refine w_iteT rfl ?_
    refine w_iteT rfl ?_
    exact o_raise T hf (by rfl) rd
abbrev spDemU (C : Addr) : Sp := spOr spDemand (spDemR C)
def tR_operations_of (C : Addr) (E : XK) : TS := tSeq (tDrop (tCall (spDemU C) [] E (tCons (tVar 0) (tCons (tVar 1) tNil)))) tNever
def tR_write_of (K : PySem.W.Frag) (C : Addr) (E : XK) : TS := tSeq (tFor (iSeq K (tCall (spOr spOpsOf (spDemR C)) [] E (tCons (tVar 0) (tCons (tVar 1) tNil)))) (gName 2) tNever) tNever
def tR_is_before (C : Addr) (E : XK) : TS := tSeq (tDrop (tCall (spDemU C) [] E (tCons (tVar 0) (tCons (tVar 2) tNil)))) (tSeq (tDrop (tCall (spDemU C) [] E (tCons (tVar 0) (tCons (tVar 3) tNil)))) tNever)
theorem pureR_ops {C : Addr} {vs : List V} {H : Hp} {Q : VK} {E : XK} {D : Ends} {N : List Str} (hN : 2 ≤ N.length) (h : spDemR C vs H Q E) : tR_operations_of C E D (start N vs) H := by
  have ar := spDemR_arity h
  match vs, ar with
  | [v0, v1], _ =>
    show tR_operations_of C E D (some v0 :: some v1 :: _) H
    unfold tR_operations_of
    walk_at "ws_14"
    exact .inr h
theorem pureR_wr {K : PySem.W.Frag} {C : Addr} {vs : List V} {H : Hp} {Q : VK} {E : XK} {D : Ends} (h : spDemR C vs H Q E) : tR_write_of K C E D (start ["log", "value", "index"] vs) H := by
  have ar := spDemR_arity h
  match vs, ar with
  | [v0, v1], _ =>
    show tR_write_of K C E D [some v0, some v1, none] H
    unfold tR_write_of
    walk_at "ws_14"
    refine .inl ?_
    unfold iList
    walk_at "ws_14"
    exact .inr h
theorem pureR_before {C : Addr} {vs : List V} {H : Hp} {Q : VK} {E : XK} {D : Ends} (h : spBefR C vs H Q E) : tR_is_before C E D (start ["log", "tolerance", "one", "other", "spans"] vs) H := by
  obtain ⟨t, ops, tol, x, y, rfl, lg, few, h⟩ := h
  show tR_is_before C E D [some (.ref t), some (.int tol), some x, some y, none] H
  unfold tR_is_before
  walk_at "ws_14"
  rcases h with ⟨d, S, dd, no, rd⟩ | ⟨u, rfl, hu, d, S, dd, no, rd⟩
  · exact .inr ⟨t, ops, x, d, S, rfl, lg, few, dd, no, rd⟩
  · refine .inl ⟨t, ops, u, rfl, lg, few, hu, fun H' k => ?_⟩
    walk_at "ws_14"
    exact .inr ⟨t, ops, y, d, S, rfl, lg.keep k, few, dd.keep k.of0, no, rd.keep k⟩
end LB

open PySem PySem.Spec PyProof.Rows L2 LB
/-! the tactic: one step of a reading; many -/
local macro_rules | `(tactic| walk_at "w1_15") => `(tactic| first
  | with_reducible refine w_seq ?_ | with_reducible refine w_asg ?_ | with_reducible refine w_drop ?_ | with_reducible refine w_ret ?_ | with_reducible refine w_next ?_
  | with_reducible refine w_ifs ?_ | with_reducible refine w_forR1 ?_ | with_reducible refine w_forR2 ?_ | with_reducible refine w_forL ?_ | with_reducible refine w_forT ?_ | with_reducible refine w_name ?_ | with_reducible refine w_sub ?_ | with_reducible refine w_par ?_
  | with_reducible refine w_var (by with_unfolding_all rfl) ?_ | with_reducible refine w_c ?_ | with_reducible refine w_op ?_ | with_reducible refine w_un ?_
  | with_reducible refine w_test ?_ | with_reducible refine w_tb ?_ | with_reducible refine w_nil ?_ | with_reducible refine w_cons ?_ | with_reducible refine w_cb ?_ | with_reducible refine w_call ?_
  | with_reducible refine w_not ?_ | with_reducible refine w_and ?_ | with_reducible refine w_or ?_ | with_reducible refine w_andV ?_ | with_reducible refine w_orV ?_ | with_reducible refine w_notV ?_
  | with_reducible refine w_ife ?_ | with_reducible refine w_chain ?_ | with_reducible refine w_bm ?_ | with_reducible refine w_sl ?_ | with_reducible refine w_part ?_ | with_reducible refine w_nopart ?_
  | with_reducible refine w_exb ?_ | with_reducible refine w_exi ?_ | with_reducible refine w_ex2 ?_ | with_reducible refine w_ex3 ?_ | with_reducible refine w_lstrg ?_ | with_reducible refine w_rg2 ?_ | with_reducible refine w_rg1 ?_ | with_reducible refine w_exij ?_ | with_reducible refine w_tup ?_ | with_reducible refine w_lst ?_
  | with_reducible refine o_add ?_ | with_reducible refine o_sub ?_ | with_reducible refine o_neg ?_ | with_reducible refine o_lt ?_ | with_reducible refine o_le ?_ | with_reducible refine o_gt ?_ | with_reducible refine o_ge ?_
  | with_reducible refine o_ixL (by assumption) (by decide) (by with_unfolding_all rfl) ?_ | with_reducible refine o_ixT (by assumption) (by decide) (by with_unfolding_all rfl) ?_
  | with_reducible refine o_mod (by first | decide | omega) ?_ | with_reducible refine o_mul (by first | decide | omega) ?_ | with_reducible refine o_fdv (by first | decide | omega) (by first | decide | omega) ?_ | with_reducible refine o_setL (by assumption) (by decide) (by simp) ?_
  | with_reducible refine oo_addi ?_ | with_reducible refine oo_sub ?_ | with_reducible refine oo_neg ?_ | with_reducible refine w_rev ?_ | with_reducible refine w_m0 ?_
  | with_reducible refine w_par3 ?_ | with_reducible refine w_tyl (by assumption) ?_
  | with_reducible refine o_abs ?_ | with_reducible refine o_eqs (by with_unfolding_all rfl) ?_ | with_reducible refine o_nes (by with_unfolding_all rfl) ?_ | with_reducible refine o_max2 ?_ | with_reducible refine o_min2 ?_ | with_reducible refine o_isiX (by assumption) ?_ | with_reducible refine o_lenl (by assumption) ?_ | with_reducible refine o_lent (by assumption) ?_ | with_reducible refine o_int1b ?_)
local macro_rules | `(tactic| walk_at "ws_15") => `(tactic| repeat (first | walk_at "w1_15" | dsimp only [List.set_cons_zero, List.set_cons_succ]))
namespace LB
open LamX
/-! ### caught: what is raised is kept; met: what it tells -/
def KeptBy (K : PySem.W.Frag) (CS : Addr) (Q : VK) : XK := fun cls d H' => PySem.W.exmOne K cls (.ref CS) = some true ∧ ∀ a, H' a = none → Q (.ref a) (upd H' a (ExT cls d a))
def spKept (K : PySem.W.Frag) (CS : Addr) : TL → Sp := fun tl rest H Q _ => rest = [] ∧ ∀ (Q' : VK) (E' : XK), (∀ v H', Q .non H' → Q' v H') → (∀ cls d H', KeptBy K CS Q cls d H' → E' cls d H') → tl H Q' E'
def suiteKeep (i r : Nat) (a : Addr) : TS := fun D σ H => σ[i]? = some (some (.ref a)) ∧ D.nx (σ.set r (some (.ref a))) H
def t_caught (K : PySem.W.Frag) (CS : Addr) (f1 c1 : Addr) (q1 : Str) (tl : TL) : TS :=
  tSeq (tAsg (tC V.non) (gName 1)) (tSeq (fun D σ H => tDrop (tAsk 0 f1 c1 q1 tl (WE (wKeep K (.ref CS) 2 (suiteKeep 2 1) (fun _ _ _ _ => False) D))) D σ H) (tRet (tVar 1)))
theorem pure_caught {K : PySem.W.Frag} {CS f1 c1 : Addr} {q1 : Str} {tl : TL} {H : Hp} {Q : VK} {E : XK} (hc : H c1 = some (CodeO c1 q1)) (h : spKept K CS tl [] H Q E) : t_caught K CS f1 c1 q1 tl { nx := fun _ H' => Q .non H', rt := Q } (start ["ask", "kept", "error"] [.ref f1]) H := by
  show t_caught K CS f1 c1 q1 tl _ [some (.ref f1), none, none] H
  unfold t_caught
  refine w_seq (w_asg (w_c (w_name (w_seq ?_))))
  change tDrop (tAsk 0 f1 c1 q1 tl _) _ _ _
  refine w_drop ?_
  refine ⟨rfl, hc, h.2 _ _ (fun v H' q => w_ret (w_var rfl q)) (fun cls d H' kb => ⟨true, kb.1, fun _ a na => ⟨rfl, w_ret (w_var rfl (kb.2 a na))⟩, fun z => nomatch z⟩)⟩
/-- met: [] where nothing is raised, [its value] where C is -/
def spMet (C : Addr) : TL → Sp := fun tl rest H Q _ => rest = [] ∧ ∀ (Q' : VK) (E' : XK),
  (∀ v H', (∀ p H2, Keep NoS H' H2 → H' p = none → H2 p = some (.lst []) → Q (.ref p) H2) → Q' v H') →
  (∀ (dx : Addr) (v : V) (H' : Hp), H' dx = some (.xd [("value", v)]) → (∀ p H2, Keep NoS H' H2 → H' p = none → H2 p = some (.lst [v]) → Q (.ref p) H2) → E' (.ref C) (some dx) H') → tl H Q' E'
/-- what is known of the three classes -/
structure Cls3 (K : PySem.W.Frag) (cl : Nat → Addr) : Prop where
  ex : ExcC K (cl 2)
  ox : OexC K (cl 2)
  xf : XfC K (cl 2)
  k1 : PySem.W.kitOne K (.ref (cl 2)) (.ref (cl 1)) = some false
  k2 : PySem.W.kitOne K (.ref (cl 2)) (.ref (cl 2)) = some true
  kV : PySem.W.kitOne K (.ref (cl 2)) (.type "ValueError") = some true
  fld : PySem.W.findIn K (.ref (cl 2)) "value" = some none
  xm : PySem.W.exmOne K (.ref (cl 2)) (.ref (cl 0)) = some true
def t5__law_met (K : PySem.W.Frag) (cl : Nat → Addr) (f1 c1 : Addr) (q1 : Str) (tl1 : TL) : TS :=
  (tSeq (tAsg (tPass 0 f1 c1 q1 tl1 (spKept K (cl 0)) E0) (gName 1))
    (tSeq (tIfS (tTest (tOp rIsA (tVar 1) (tC V.non)))
    (tRet (tLst tNil)) tNext)
    (tSeq (tIfS (tOr (tNot (tB (tCB (rIsT K) (tCons (tVar 1) (tCons (tC (V.ref (cl 2))) tNil))))) (tOr (tB (tCB (rIsT K) (tCons (tVar 1) (tCons (tC (V.ref (cl 1))) tNil)))) (tNot (tB (tCB (rIsT K) (tCons (tVar 1) (tCons (tC (V.ty "ValueError")) tNil)))))))
    (tRet (tC V.non)) tNext)
    (tRet (tLst (tCons (tXtF K "value" (tVar 1)) tNil))))))
theorem w_xtf {K : PySem.W.Frag} {f : Str} {te : TE} {σ : LB.St} {H : Hp} {Q : VK} (h : te σ H fun x H1 => ∃ (a C dx : Addr) (fs : List (Str × V)) (v : V), x = .ref a ∧ XfC K C ∧ PySem.W.findIn K (.ref C) f = some none ∧
  H1 a = some (ExT (.ref C) (some dx) a) ∧ H1 dx = some (.xd fs) ∧ fs.lookup f = some v ∧ Q v H1) : tXtF K f te σ H Q := h
theorem pure5__law_met {K : PySem.W.Frag} {cl : Nat → Addr} {f1 c1 : Addr} {q1 : Str} {tl : TL} {H : Hp} {Q : VK} {E : XK} (T : Cls3 K cl) (hc : H c1 = some (CodeO c1 q1)) (h : spMet (cl 2) tl [] H Q E) :
    t5__law_met K cl f1 c1 q1 tl { nx := fun _ H' => Q .non H', rt := Q } (start ["ask", "kept"] [.ref f1]) H := by
  show t5__law_met K cl f1 c1 q1 tl _ [some (.ref f1), none] H
  unfold t5__law_met
  refine w_seq (w_asg ⟨rfl, hc, rfl, fun Q' E' hQ hE => h.2 Q' E' (fun v H' q => hQ v H' ?_) fun dx v H' e q => hE (.ref (cl 2)) (some dx) H' ⟨T.xm, fun a na => ?_⟩⟩)
  · refine w_name ?_
    walk_at "ws_15"
    refine .inl ⟨rfl, true, rfl, ?_⟩
    refine w_iteT rfl ?_
    walk_at "ws_15"
    exact k_lst (by simp) fun p H2 n => q p H2 n.keep n.no n.at_
  · have ne : dx ≠ a := ne_of_none e na
    have k0 : Keep NoS H' (upd H' a (ExT (.ref (cl 2)) (some dx) a)) := Keep.new na
    have ea : upd H' a (ExT (.ref (cl 2)) (some dx) a) a = some (ExT (.ref (cl 2)) (some dx) a) := upd_same
    have ed : upd H' a (ExT (.ref (cl 2)) (some dx) a) dx = some (.xd [("value", v)]) := by rw [upd_ne ne]; exact e
    generalize upd H' a (ExT (.ref (cl 2)) (some dx) a) = G at k0 ea ed ⊢
    refine w_name ?_
    walk_at "ws_15"
    refine .inl ⟨rfl, false, rfl, ?_⟩
    refine w_iteF rfl ?_
    walk_at "ws_15"
    refine ⟨a, cl 2, dx, _, .ref (cl 2), .ref (cl 2), true, rfl, T.ex, ea, ed, fun _ r => r, T.k2, ?_⟩
    walk_at "ws_15"
    refine w_iteF rfl ?_
    walk_at "ws_15"
    refine ⟨a, cl 2, dx, _, .ref (cl 1), .ref (cl 1), false, rfl, T.ex, ea, ed, fun _ r => r, T.k1, ?_⟩
    walk_at "ws_15"
    refine w_iteF rfl ?_
    walk_at "ws_15"
    refine ⟨a, cl 2, dx, _, .ty "ValueError", .type "ValueError", true, rfl, T.ex, ea, ed, fun _ r => r, T.kV, ?_⟩
    walk_at "ws_15"
    refine w_iteF rfl ?_
    walk_at "ws_15"
    refine w_xtf ?_
    walk_at "ws_15"
    refine ⟨a, cl 2, dx, _, v, rfl, T.xf, T.fld, ea, ed, rfl, ?_⟩
    walk_at "ws_15"
    exact k_lst (by simp; decide) fun p H2 n => q p H2 (k0.trans n.keep) (k0.free id n.no) n.at_
end LB

open PySem PySem.Spec PyProof.Rows L2 LB
/-! the tactic: one step of a reading; many -/
local macro_rules | `(tactic| walk_at "w1_16") => `(tactic| first
  | with_reducible refine w_seq ?_ | with_reducible refine w_asg ?_ | with_reducible refine w_drop ?_ | with_reducible refine w_ret ?_ | with_reducible refine w_next ?_
  | with_reducible refine w_ifs ?_ | with_reducible refine w_forR1 ?_ | with_reducible refine w_forR2 ?_ | with_reducible refine w_forL ?_ | with_reducible refine w_forT ?_ | with_reducible refine w_name ?_ | with_reducible refine w_sub ?_ | with_reducible refine w_par ?_
  | with_reducible refine w_var (by with_unfolding_all rfl) ?_ | with_reducible refine w_c ?_ | with_reducible refine w_op ?_ | with_reducible refine w_un ?_
  | with_reducible refine w_test ?_ | with_reducible refine w_tb ?_ | with_reducible refine w_nil ?_ | with_reducible refine w_cons ?_ | with_reducible refine w_cb ?_ | with_reducible refine w_call ?_
  | with_reducible refine w_not ?_ | with_reducible refine w_and ?_ | with_reducible refine w_or ?_ | with_reducible refine w_andV ?_ | with_reducible refine w_orV ?_ | with_reducible refine w_notV ?_
  | with_reducible refine w_ife ?_ | with_reducible refine w_chain ?_ | with_reducible refine w_bm ?_ | with_reducible refine w_sl ?_ | with_reducible refine w_part ?_ | with_reducible refine w_nopart ?_
  | with_reducible refine w_exb ?_ | with_reducible refine w_exi ?_ | with_reducible refine w_ex2 ?_ | with_reducible refine w_ex3 ?_ | with_reducible refine w_lstrg ?_ | with_reducible refine w_rg2 ?_ | with_reducible refine w_rg1 ?_ | with_reducible refine w_exij ?_ | with_reducible refine w_tup ?_ | with_reducible refine w_lst ?_
  | with_reducible refine o_add ?_ | with_reducible refine o_sub ?_ | with_reducible refine o_neg ?_ | with_reducible refine o_lt ?_ | with_reducible refine o_le ?_ | with_reducible refine o_gt ?_ | with_reducible refine o_ge ?_
  | with_reducible refine o_ixL (by assumption) (by decide) (by with_unfolding_all rfl) ?_ | with_reducible refine o_ixT (by assumption) (by decide) (by with_unfolding_all rfl) ?_
  | with_reducible refine o_mod (by first | decide | omega) ?_ | with_reducible refine o_mul (by first | decide | omega) ?_ | with_reducible refine o_fdv (by first | decide | omega) (by first | decide | omega) ?_ | with_reducible refine o_setL (by assumption) (by decide) (by simp) ?_
  | with_reducible refine oo_addi ?_ | with_reducible refine oo_sub ?_ | with_reducible refine oo_neg ?_ | with_reducible refine w_rev ?_ | with_reducible refine w_m0 ?_
  | with_reducible refine w_par3 ?_ | with_reducible refine w_tyl (by assumption) ?_
  | with_reducible refine o_abs ?_ | with_reducible refine o_eqs (by with_unfolding_all rfl) ?_ | with_reducible refine o_nes (by with_unfolding_all rfl) ?_ | with_reducible refine o_max2 ?_ | with_reducible refine o_min2 ?_ | with_reducible refine o_isiX (by assumption) ?_ | with_reducible refine o_lenl (by assumption) ?_ | with_reducible refine o_lent (by assumption) ?_ | with_reducible refine o_int1b ?_)
local macro_rules | `(tactic| walk_at "ws_16") => `(tactic| repeat (first | walk_at "w1_16" | dsimp only [List.set_cons_zero, List.set_cons_succ]))
namespace LB
open LamX
/-! ### xs != [] -/
def rNeNil : R2 := fun x y H Q => ∃ (a b : Addr) (xs : List V), x = .ref a ∧ y = .ref b ∧ H a = some (.lst xs) ∧ H b = some (.lst []) ∧ Q (.bl (!xs.isEmpty)) H
theorem op_neNil {X : Cx} (hu : X.A.units < cLine) : OpR X (compareOp .NotEq) rNeNil := by
  intro pins s σ H x y v u Q I rx ry h
  obtain ⟨a, b, xs, rfl, rfl, ea, eb, q⟩ := h
  cases rx
  cases ry
  obtain ⟨_, vs, n, r1, h1⟩ := I.hok a _ ea
  obtain ⟨_, ws, m, r2, h2⟩ := I.hok b _ eb
  have w0 : ws.length = 0 := by have := r2.length; simpa using this.symm
  have l1 : vs.length = xs.length := r1.length.symm
  have i1 : s.heap.IsList a vs.toArray := ⟨_, h1, rfl, _, rfl⟩
  have i2 : s.heap.IsList b ws.toArray := ⟨_, h2, rfl, _, rfl⟩
  by_cases z : xs.length = 0
  · have e0 : xs = [] := List.length_eq_zero_iff.mp z
    subst e0
    refine SeqAt.RcNeAt.lists (e := fun _ => true) i1 i2 (by simp [l1, w0]) hu (fun j hj _ => absurd hj (by simp [l1])) _ _ _ _ ⟨.bl _, H, I, rfl, ?_⟩
    simpa [l1] using q
  · have e1 : xs.isEmpty = false := by cases xs with | nil => exact absurd rfl z | cons _ _ => rfl
    rw [e1] at q
    exact SeqAt.RcNeAt.lists_lengths i1 i2 (by simp [l1, w0, z]) hu _ _ _ _ ⟨.bl _, H, I, rfl, q⟩
/-! ### all but p and the tables stay -/
def Tb (S : Addr → Prop) (H : Hp) : Addr → Prop := fun b => S b ∨ ∃ ps, H b = some (.tbl ps)
abbrev KeepT (S : Addr → Prop) (H H' : Hp) : Prop := Keep (Tb S H) H H'
theorem KeepT.of {S : Addr → Prop} {H H' : Hp} (k : Keep S H H') : KeepT S H H' := k.mono fun _ z => .inl z
theorem KeepT.ext {S : Addr → Prop} {H H' : Hp} (e : ExtN H H') : KeepT S H H' := ⟨fun b o n h => e b o h fun ps z => n (.inr ⟨ps, by rw [h, z]⟩), fun b xs h => e b _ h fun ps z => by cases z⟩
theorem KeepT.get {S : Addr → Prop} {H H' : Hp} (k : KeepT S H H') {b : Addr} {o : HO} (n : ¬ S b) (nt : ∀ ps, o ≠ .tbl ps) (h : H b = some o) : H' b = some o :=
  k.all b o (fun z => z.elim n fun ⟨ps, e⟩ => nt ps (by rw [h] at e; exact Option.some.inj e)) h
theorem KeepT.trans {S : Addr → Prop} {H H1 H2 : Hp} (a : KeepT S H H1) (b : KeepT S H1 H2) : KeepT S H H2 := by
  refine ⟨fun x o n h => ?_, fun x xs h => b.tup x xs (a.tup x xs h)⟩
  have nt : ∀ ps, o ≠ .tbl ps := fun ps z => n (.inr ⟨ps, by rw [h, z]⟩)
  have ns : ¬ S x := fun z => n (.inl z)
  exact b.get ns nt (a.get ns nt h)
mutual
theorem DD.tb {S : Addr → Prop} {H : Hp} : ∀ {v : V} {d : PyData}, DD S H v d → DD (Tb S H) H v d
  | _, _, .non => .non
  | _, _, .bl b => .bl b
  | _, _, .int i => .int i
  | _, _, .str x => .str x
  | _, _, .tup e r => .tup e (DDs.tb r)
  | _, _, .lst n e r => .lst (fun z => z.elim n fun ⟨ps, q⟩ => by rw [e] at q; cases q) e (DDs.tb r)
  | _, _, .dct n e r => .dct (fun z => z.elim n fun ⟨ps, q⟩ => by rw [e] at q; cases q) e (DDs.tb r)
theorem DDs.tb {S : Addr → Prop} {H : Hp} : ∀ {vs : List V} {ds : List PyData}, DDs S H vs ds → DDs (Tb S H) H vs ds
  | _, _, .nil => .nil
  | _, _, .cons e r => .cons (DD.tb e) (DDs.tb r)
end
theorem DD.keepT {S : Addr → Prop} {H H' : Hp} {v : V} {d : PyData} (h : DD S H v d) (k : KeepT S H H') : DD S H' v d := ((DD.tb h).keep k).mono fun _ _ z => .inl z
theorem tabs_keep {T : List (Addr × Str)} {p : Addr} {xs : List V} {H H' : Hp} (t : Tabs T H) (k : Keep (At p) H H') (e : H p = some (.lst xs)) : Tabs T H' := fun pr hp => by
  obtain ⟨ps, h1, h2, h3⟩ := t pr hp
  refine ⟨ps, k.all _ _ (fun z => ?_) h1, h2, fun pos cv hc => ?_⟩
  · rw [show pr.1 = p from z, e] at h1; cases h1
  · obtain ⟨c, e1, e2⟩ := h3 pos cv hc
    refine ⟨c, e1, k.all _ _ (fun z => ?_) e2⟩
    rw [show c = p from z, e] at e2
    unfold CodeO at e2
    cases e2
theorem pot_lst {H : Hp} {p : Addr} {n : Nat} (h : Pot H p n) : ∃ xs : List V, H p = some (HO.lst xs) := by obtain ⟨a, b, c, e, _⟩ := h; exact ⟨_, e⟩
theorem Pot.ext {H H1 : Hp} {p : Addr} {n : Nat} (h : Pot H p n) (e : ExtN H H1) : Pot H1 p n := by
  obtain ⟨a, b, c, h1, r⟩ := h
  exact ⟨a, b, c, e p _ h1 (fun ps z => by cases z), r⟩
/-- what a lambda's asking is met with: [] or [x], drawn from the pot at p perhaps -/
theorem lam_met {C p : Addr} {TT : List (Addr × Str)} {G H : Hp} {N N' : Nat} {inl : Bool} {x : V} {tl : TL} {Q : VK} {E : XK} (kp : KeepT (At p) G H) (pt : Pot H p N) (tb : Tabs TT H) (tlok : ∀ H1, KeepT (At p) G H1 → Pot H1 p N → ∀ (Q' : VK) (E' : XK),
      (inl = true → ∀ v H', Keep (At p) H1 H' → Pot H' p N' → Q' v H') → (inl = false → ∀ dx H', Keep (At p) H1 H' → Pot H' p N' → H' dx = some (.xd [("value", x)]) → E' (.ref C) (some dx) H') → tl H1 Q' E')
    (q : ∀ u H2, KeepT (At p) H H2 → KeepT (At p) G H2 → Pot H2 p N' → Tabs TT H2 → u ≠ p → (∀ b o, H b = some o → (∀ ps, o ≠ .tbl ps) → b ≠ u) → H2 u = some (.lst (if inl = true then [] else [x])) → Q (.ref u) H2) :
    Tabs TT H ∧ ∀ H1, ExtN H H1 → Tabs TT H1 → spMet C tl [] H1 Q E := by
  refine ⟨tb, fun H1 e1 t1 => ⟨rfl, fun Q' E' hQ hE => ?_⟩⟩
  have pt1 := pt.ext e1
  have k1 : KeepT (At p) H H1 := KeepT.ext e1
  obtain ⟨xs, hx⟩ := pot_lst pt1
  have fin : ∀ (v : List V) (H' : Hp), v = (if inl = true then [] else [x]) → Keep (At p) H1 H' → Pot H' p N' → ∀ u H2, Keep NoS H' H2 → H' u = none → H2 u = some (.lst v) → Q (.ref u) H2 := by
    intro v H' ev k pt' u H2 k2 n e
    have np : u ≠ p := fun z => by
      obtain ⟨ys, hy⟩ := pot_lst pt'
      rw [z, hy] at n
      cases n
    have kk : Keep (At p) H1 H2 := k.trans k2.of0
    refine q u H2 (k1.trans (KeepT.of kk)) ((kp.trans k1).trans (KeepT.of kk)) (pt'.keep k2) (tabs_keep t1 kk hx) np (fun b o hb nt z => ?_) (by rw [e, ev])
    have h1 := e1 b o hb nt
    by_cases zp : b = p
    · rw [zp] at z; exact np z.symm
    · rw [← z, k.all b o zp h1] at n
      cases n
  refine tlok H1 (kp.trans k1) pt1 Q' E' (fun i v H' k pt' => hQ v H' (fin [] H' (by rw [if_pos i]) k pt')) (fun i dx H' k pt' e => hE dx x H' e (fin [x] H' (by rw [if_neg (by rw [i]; exact Bool.false_ne_true)]) k pt'))
end LB

/-! Own layer: generators of which the first item alone is asked. -/
namespace LB
open PySem PySem.Spec PyProof.Rows L2 GenW
/-- where a generator's code stands -/
structure G1C (X : Cx) (A : Around) (c : Code) (fs : List Frame) (gd : Bool → Bool) : Prop where
  over : A.over c fs = X.A
  split : splitAtGen fs = none
  guard : fs.any Frame.guarded = false
  gd0 : gd false = false
  nox : ∀ e s, X.xe e s → False
/-- what follows: an end, or a first item that satisfies yl -/
structure G1K (X : Cx) (pins : List (Addr × Obj)) (A : Around) (R : GenEnd) (Y : Protocol) (s₀ : Shared) (c : Code) (fs : List Frame) (KK : Flow → Sem PySem.Fin) (D : Ends) (yl : V → Hp → Prop) : Prop where
  ok : ∀ (s : Shared) (f : Flow), SP X pins D f s → Seg (model X.prog X.w) A R Y 1 s₀ c (KK f) fs s
  yl : ∀ (s : Shared) (v : Value) (x : V) (σ : LB.St) (H : Hp), L2.Inv X pins σ H s → RelV x v → yl x H → ∀ kap, Y 0 s₀ v s kap
structure G1S (X : Cx) (yl : V → Hp → Prop) (st : Stmt) (t : TS) : Prop where
  run : ∀ (A : Around) (R : GenEnd) (Y : Protocol) (s₀ : Shared) (c : Code) (fs : List Frame) (KK : Flow → Sem PySem.Fin) (JJ : Value → Sem PySem.Fin) (gd : Bool → Bool) (lv : List Value → List Value) (pins : List (Addr × Obj)) (s : Shared) (σ : LB.St) (H : Hp) (D : Ends),
    G1C X A c fs gd → G1K X pins A R Y s₀ c fs KK D yl → L2.Inv X pins σ H s → t D σ H → Seg (model X.prog X.w) A R Y 1 s₀ c ((exec st X.env).wrap KK JJ gd lv) fs s
structure G1B (X : Cx) (yl : V → Hp → Prop) (st : List Stmt) (t : TS) : Prop where
  run : ∀ (A : Around) (R : GenEnd) (Y : Protocol) (s₀ : Shared) (c : Code) (fs : List Frame) (KK : Flow → Sem PySem.Fin) (JJ : Value → Sem PySem.Fin) (gd : Bool → Bool) (lv : List Value → List Value) (pins : List (Addr × Obj)) (s : Shared) (σ : LB.St) (H : Hp) (D : Ends),
    G1C X A c fs gd → G1K X pins A R Y s₀ c fs KK D yl → L2.Inv X pins σ H s → t D σ H → Seg (model X.prog X.w) A R Y 1 s₀ c ((execs st X.env).wrap KK JJ gd lv) fs s
section
variable {X : Cx} {yl : V → Hp → Prop} {st : Stmt} {rest : List Stmt} {t u : TS}
theorem g1_ps (h : PS X st t) : G1S X yl st t := by
  refine ⟨fun A R Y s₀ c fs KK JJ gd lv pins s σ H D g k I q => seg_wrap ?_⟩
  rw [g.over]
  exact wpAny_mono (h.run pins s σ H D I q) (fun f s' hs => k.ok s' f hs) fun x s' hx => (g.nox x s' hx).elim
theorem g1_nil : G1B X yl [] tNext := ⟨fun A R Y s₀ c fs KK JJ gd lv pins s σ H D g k I q => seg_execs_nil (k.ok s .next ⟨σ, H, I, q⟩)⟩
theorem g1_cons (a : G1S X yl st t) (b : G1B X yl rest u) : G1B X yl (st :: rest) (tSeq t u) := by
  refine ⟨fun A R Y s₀ c fs KK JJ gd lv pins s σ H D g k I q => seg_execs_cons ?_⟩
  refine a.run A R Y s₀ c fs _ JJ gd lv pins s σ H { D with nx := u D } g ⟨fun s' f hs => ?_, k.yl⟩ I q
  match f, hs with
  | .next, ⟨σ', H', I', q'⟩ => exact b.run A R Y s₀ c fs KK JJ gd lv pins s' σ' H' D g k I' q'
  | .brk, hs => exact k.ok s' .brk hs
  | .cont, hs => exact k.ok s' .cont hs
  | .ret v, hs => exact k.ok s' (.ret v) hs
theorem g1_one (a : G1S X yl st t) : G1B X yl [st] t := by
  refine ⟨fun A R Y s₀ c fs KK JJ gd lv pins s σ H D g k I q => seg_execs_cons ?_⟩
  refine a.run A R Y s₀ c fs _ JJ gd lv pins s σ H D g ⟨fun s' f hs => ?_, k.yl⟩ I q
  match f, hs with
  | .next, hs => exact seg_execs_nil (k.ok s' .next hs)
  | .brk, hs => exact k.ok s' .brk hs
  | .cont, hs => exact k.ok s' .cont hs
  | .ret v, hs => exact k.ok s' (.ret v) hs
/-- yield e -/
def tY1 (yl : V → Hp → Prop) (te : TE) : TS := fun _ σ H => te σ H yl
theorem g1_yield {e : Expr} {yp pos : Pos} {te : TE} (he : PE X e te) (hco : X.env.scope.isCoroutine = false := by rfl) (hi : interactive X.env = false := by rfl) : G1S X yl (.Expr (.Yield (some e) yp) pos) (tY1 yl te) := by
  refine ⟨fun A R Y s₀ c fs KK JJ gd lv pins s σ H D g k I q => ?_⟩
  refine seg_Expr_Yield g.split g.gd0 g.guard ?_ hco hi
  rw [g.over]
  refine wpAny_mono (he.run pins s σ H _ I q) (fun v s' hv => ?_) fun x s' hx => (g.nox x s' hx).elim
  obtain ⟨x, H1, I1, rv, q1⟩ := hv
  exact fun kap _ => k.yl s' v x σ H1 I1 rv q1 kap
/-- if -/
theorem g1_if {test : Expr} {body orelse : List Stmt} {pos : Pos} {tc : TT} (hc : PT X test tc) (hb : G1B X yl body t) (ho : G1B X yl orelse u) : G1S X yl (.If test body orelse pos) (tIfS tc t u) := by
  refine ⟨fun A R Y s₀ c fs KK JJ gd lv pins s σ H D g k I q => ?_⟩
  show Seg _ A R Y 1 s₀ c ((standAt pos >>= fun _ => isTrue test X.env (eval test X.env) >>= fun b => if b = true then execs body X.env else execs orelse X.env).wrap KK JJ gd lv) fs s
  refine seg_bind_wrap (wpAny_standAt (seg_bind_wrap ?_))
  rw [g.over]
  refine wpAny_mono (hc.run pins s σ H _ I q) (fun b s' hb' => ?_) fun x s' hx => (g.nox x s' hx).elim
  obtain ⟨H1, I1, q1⟩ := hb'
  cases b with
  | true => exact hb.run A R Y s₀ c fs KK JJ gd lv pins s' σ H1 D g k I1 q1
  | false => exact ho.run A R Y s₀ c fs KK JJ gd lv pins s' σ H1 D g k I1 q1
end
/-! ### loops -/
section
variable {M : Model} {A : Around} {R : GenEnd} {Y : Protocol} {n : Nat} {s₀ s : Shared} {c : Code} {fs : List Frame} {env : Env} {KK : Flow → Sem PySem.Fin} {JJ : Value → Sem PySem.Fin} {gd : Bool → Bool} {lv : List Value → List Value}
abbrev backK (env : Env) (KK : Flow → Sem PySem.Fin) (JJ : Value → Sem PySem.Fin) (gd : Bool → Bool) (lv : List Value → List Value) : Result → Sem PySem.Fin :=
  fun r => ((match r with | .ok f => (.pure f : Sem Flow) | .error e => .raise e).onRaise (cameBack env)).wrap KK JJ gd lv
theorem seg_own {c' : Code} (h : ∀ p, Seg M A R Y n s₀ c' (M.den c') (.ret (backK env KK JJ gd lv) none (gd false) (lv []) c p [] :: fs) s) : Seg M A R Y n s₀ c ((runOwn c' env).wrap KK JJ gd lv) fs s := seg_call h
theorem seg_For {target iter : Expr} {body : List Stmt} {pos : Pos} (hs : ∀ x, foldedSetIterable iter env x = pure x)
    (h : wpAny M (A.over c fs) (eval iter env) (fun x s1 => wpAny M (A.over c fs) (pyIter x) (fun it s2 => ∀ p, Seg M A R Y n s₀ (.forLoop target it body [] env) (M.den (.forLoop target it body [] env)) (.ret (backK env KK JJ gd lv) none (gd false) (lv []) c p [] :: fs) s2) (fun _ _ => False) s1) (fun _ _ => False) s) :
    Seg M A R Y n s₀ c ((exec (.For target iter body [] pos) env).wrap KK JJ gd lv) fs s := by
  rw [exec_For]
  refine seg_bind_wrap (wpAny_standAt (seg_bind_wrap (wpAny_mono h (fun x s1 h1 => ?_) fun _ _ z => z.elim)))
  refine seg_bind_wrap (wpAny_of_eq (hs x) (seg_bind_wrap (wpAny_standAt (seg_bind_wrap (wpAny_holding ?_)))))
  exact wpAny_mono h1 (fun it s2 h2 => seg_own h2) fun _ _ z => z.elim
end
section
variable {P : Program} {w : World} {A : Around} {R : GenEnd} {Y : Protocol} {n : Nat} {s₀ s : Shared} {fs : List Frame} {env : Env}
theorem seg_blockNil {c : Code} {KB : Result → Sem PySem.Fin} {g : Bool} {l kp : List Value} {c₁ : Code} {p₁ : Pos} (h : Seg (model P w) A R Y n s₀ c₁ (KB (.ok .next)) fs s) :
    Seg (model P w) A R Y n s₀ c (.pure (.again (.block [] env))) (.ret KB none g l c₁ p₁ kp :: fs) s := by
  refine seg_again rfl ?_
  exact seg_leaf (.ok .next) h
/-- one turn -/
theorem seg_forTurn {target : Expr} {it : Value} {body : List Stmt} {KB : Result → Sem PySem.Fin} {g : Bool} {l kp : List Value} {c₁ : Code} {p₁ : Pos}
    (h : wpAny (model P w) (A.over (.forLoop target it body [] env) (.ret KB none g l c₁ p₁ kp :: fs)) (pyNext it) (fun r s1 => match r with
      | none => Seg (model P w) A R Y n s₀ c₁ (KB (.ok .next)) fs s1
      | some v => wpAny (model P w) (A.over (.forLoop target it body [] env) (.ret KB none g l c₁ p₁ kp :: fs)) (letOwnedTupleGo target it v) (fun _ s2 =>
          wpAny (model P w) (A.over (.forLoop target it body [] env) (.ret KB none g l c₁ p₁ kp :: fs)) (assign target env v) (fun _ s3 =>
            ∀ JJ, Seg (model P w) A R Y n s₀ (.forLoop target it body [] env) ((execs body env).wrap (fun f => match f with
              | .next | .cont => .pure (.again (.forLoop target it body [] env))
              | .brk => .pure (.done .next)
              | .ret v => .pure (.done (.ret v))) JJ id id) (.ret KB none g l c₁ p₁ kp :: fs) s3) (fun _ _ => False) s2) (fun _ _ => False) s1) (fun _ _ => False) s) :
    Seg (model P w) A R Y n s₀ (.forLoop target it body [] env) ((model P w).den (.forLoop target it body [] env)) (.ret KB none g l c₁ p₁ kp :: fs) s := by
  show Seg _ A R Y n s₀ _ ((forTurn target it body [] env).onRaise _) _ s
  rw [Sem.onRaise_eq_wrap]
  unfold forTurn
  refine seg_bind_wrap (wpAny_standAt (seg_bind_wrap (wpAny_onRaise (wpAny_mono h (fun r s1 h1 => ?_) fun _ _ z => z.elim))))
  cases r with
  | none => exact seg_blockNil h1
  | some v =>
    refine seg_bind_wrap (wpAny_mono h1 (fun _ s2 h2 => ?_) fun _ _ z => z.elim)
    refine seg_bind_wrap (wpAny_mono h2 (fun _ s3 h3 => ?_) fun _ _ z => z.elim)
    rw [Sem.bind_eq_wrap', Sem.wrap_wrap]
    rw [Sem.wrap_congr (execs body env) _ _ (K' := fun f => match f with
              | .next | .cont => .pure (.again (.forLoop target it body [] env))
              | .brk => .pure (.done .next)
              | .ret v => .pure (.done (.ret v))) (fun f => by cases f <;> rfl) (fun e => rfl)]
    exact h3 _
end
end LB
namespace LB
open PySem PySem.Spec PyProof.Rows L2 GenW
section
variable {X : Cx} {yl : V → Hp → Prop}
theorem g1c_loop {A : Around} {c c' : Code} {fs : List Frame} {gd : Bool → Bool} {k : Result → Sem PySem.Fin} {l kp : List Value} {p : Pos} (g : G1C X A c fs gd) (hw : c'.weight = 0) (hu : c'.cUnits = 0) : G1C X A c' (.ret k none (gd false) l c p kp :: fs) id := by
  refine ⟨(over_loop hw hu).trans g.over, ?_, ?_, rfl, g.nox⟩
  · show Option.map _ (splitAtGen fs) = none
    rw [g.split]
    rfl
  · show (gd false || List.any fs Frame.guarded) = false
    rw [g.gd0, g.guard]
    rfl
theorem g1_for {tg iter : Expr} {body : List Stmt} {wi : TI} {g : TG} {tb : TS} {pos : Pos} (hc : X.calm = true) (hi : PI X tg iter wi) (hg : PG X tg g) (hb : G1B X yl body tb)
    (hs : ∀ x, foldedSetIterable iter X.env x = pure x := by intro _; rfl) : G1S X yl (.For tg iter body [] pos) (tFor wi g tb) := by
  refine ⟨fun A R Y s₀ c fs KK JJ gd lv pins s σ H D gc k I q => seg_For hs ?_⟩
  rw [gc.over]
  refine wpAny_mono (hi.run pins s σ H _ I q) (fun v s1 h1 => wpAny_mono h1 (fun itv s2 h2 p => ?_) fun x s' hx => (gc.nox x s' hx).elim) fun x s' hx => (gc.nox x s' hx).elim
  obtain ⟨it, fp, tn, J, H2, e, I2, T, st2, f2, W, ⟨m0, w0⟩, turn⟩ := h2
  subst e
  have stat : ∀ {H' : Hp}, (∀ b ∈ fp, H' b = none) → ∀ b ∈ fp, FpOk X pins H' b := fun hn b hb => ⟨hn b hb, (f2 b hb).2⟩
  have loop : ∀ (m i : Nat) (σ : LB.St) (H : Hp) (s : Shared), L2.Inv X pins σ H s → tn i s.heap → (∀ b ∈ fp, H b = none) → W i m σ H →
      Seg (model X.prog X.w) A R Y 1 s₀ (.forLoop tg (.ref it) body [] X.env) ((model X.prog X.w).den (.forLoop tg (.ref it) body [] X.env)) (.ret (backK X.env KK JJ gd lv) none (gd false) (lv []) c p [] :: fs) s := by
    intro m
    induction m using Nat.strongRecOn with
    | ind m ih =>
      intro i σ3 H3 s3 I3 st3 fr3 w3
      have gl : G1C X A (.forLoop tg (.ref it) body [] X.env) (.ret (backK X.env KK JJ gd lv) none (gd false) (lv []) c p [] :: fs) id := g1c_loop gc rfl rfl
      refine seg_forTurn ?_
      rw [gl.over]
      rcases turn i m σ3 H3 w3 with ⟨stop, qn⟩ | ⟨go, N, hN, step⟩
      · refine wpAny_mono (T.done X rfl rfl rfl hc i pins s3 σ3 H3 (fun _ _ => False) I3 (stat fr3) st3 stop) (fun r s4 h4 => ?_) fun _ _ z => z
        obtain ⟨hr, I4⟩ := h4
        subst hr
        exact k.ok s4 .next ⟨σ3, H3, I4, qn⟩
      · refine wpAny_mono (T.item X rfl rfl rfl hc i pins s3 σ3 H3 (fun _ _ => False) I3 (stat fr3) st3 go) (fun r s4 h4 => ?_) fun _ _ z => z
        obtain ⟨u, hr, h4⟩ := h4
        subst hr
        refine wpAny_mono h4 (fun _ s5 h5 => ?_) fun _ _ z => z
        obtain ⟨x, H5, I5, r5, y5, st5, fr5⟩ := h5
        have I5' := I5.pinned (stat fr5) (T.obj _ _ st5)
        refine wpAny_mono (hg.run _ s5 σ3 H5 x u _ I5' r5 (step x H5 y5)) (fun _ s6 h6 JJ' => ?_) fun x s' hx => (gc.nox x s' hx).elim
        obtain ⟨σ6, H6, I6, q6⟩ := h6
        have again : ∀ {σ7 : LB.St} {H7 : Hp} {s7 : Shared}, L2.Inv X (pins ++ pinsAt fp s5.heap) σ7 H7 s7 → N σ7 H7 →
            Seg (model X.prog X.w) A R Y 1 s₀ (.forLoop tg (.ref it) body [] X.env) ((model X.prog X.w).den (.forLoop tg (.ref it) body [] X.env)) (.ret (backK X.env KK JJ gd lv) none (gd false) (lv []) c p [] :: fs) s7 := fun {σ7 H7 s7} I7 n7 => by
          obtain ⟨m', hm, w7⟩ := hN σ7 H7 n7
          refine ih m' hm (i + 1) σ7 H7 s7 I7.unpinned (T.keep _ _ _ st5 fun b hb o e => (I7.pin (b, o) (List.mem_append_right _ (List.mem_append_right _ (mem_pinsAt hb e)))).1) (fun b hb => ?_) w7
          obtain ⟨o, e, _⟩ := T.obj _ _ st5 b hb
          exact (I7.pin (b, o) (List.mem_append_right _ (List.mem_append_right _ (mem_pinsAt hb e)))).2.1
        refine hb.run A R Y s₀ _ _ _ JJ' id id (pins ++ pinsAt fp s5.heap) s6 σ6 H6 { D with nx := N, ct := N, bk := D.nx } gl ⟨fun s7 f h7 => ?_, fun s7 v x σ7 H7 I7 rv hy => k.yl s7 v x σ7 H7 I7.unpinned rv hy⟩ I6 q6
        match f, h7 with
        | .next, ⟨σ7, H7, I7, n7⟩ => exact seg_again rfl (again I7 n7)
        | .cont, ⟨σ7, H7, I7, n7⟩ => exact seg_again rfl (again I7 n7)
        | .brk, ⟨σ7, H7, I7, n7⟩ => exact seg_leaf (.ok .next) (k.ok s7 .next ⟨σ7, H7, I7.unpinned, n7⟩)
        | .ret u', ⟨v, σ7, H7, I7, rv, n7⟩ => exact seg_leaf (.ok (.ret u')) (k.ok s7 (.ret u') ⟨v, σ7, H7, I7.unpinned, rv, n7⟩)
  exact loop m0 0 σ H2 s2 I2 st2 (fun b hb => (f2 b hb).1) w0
end
end LB

namespace LB
open PySem PySem.Spec PyProof.Rows L2 GenW
/-! ### a generator def's promise: what its first item is, or that it ends -/
abbrev SpY := List V → Hp → (Option V → Hp → Prop) → Prop
section
variable (P : Program) (w : World) (outer : List Env) (H : Hp) (s : Shared) (R : Option V → Hp → Prop)
def Went (r : Option V) (s1 : Shared) : Prop := s1.os = s.os ∧ AllBare s1.gens ∧ ∃ H', Un (frs outer) [] H H' s.heap s1.heap ∧ HOk P w H' s1.heap ∧ R r H'
def R1G : GenEnd := fun _ _ r s1 => ((r = .ok (.ret .none) ∨ r = .ok .next) ∧ Went P w outer H s R none s1) ∨ ∃ e, r = .error e ∧ (fun (_ : Value) (_ : Shared) => False) e s1
def Y1G (a : Addr) (g : Nat) : Protocol := fun _ _ v s1 _ => s1.heap.IsGen a g ∧ ∃ x, RelV x v ∧ Went P w outer H s R (some x) s1
/-- a generator that has not begun -/
def GMade1 (k : Nat) (u : Value) (s' : Shared) : Prop := ∃ (a : Addr) (g : Nat) (c : Code), u = .ref a ∧ s'.heap.IsGen a g ∧ s'.gens[g]? = some (.fresh c) ∧ s'.os = s.os ∧ AllBare s'.gens ∧ s'.heap.NoLimit ∧ (∀ b o, s.heap.get? b = some o → s'.heap.get? b = some o) ∧
  ∀ (A : Around) (s2 : Shared), Room k A → A.guards = some [] → A.frames = some outer → (∀ b o, s'.heap.get? b = some o → s2.heap.get? b = some o) → s2.os = s.os → AllBare s2.gens →
    Seg (model P w) A (R1G P w outer H s R) (Y1G P w outer H s R a g) 1 s2 c ((model P w).den c) [] s2
end
structure GFn1 (P : Program) (w : World) (K : PySem.W.Frag) (mg : Str → Option Value) (base : Heap) (k : Nat) (f : Addr) (fd : FuncData) (ps : List Str) (sp : SpY) : Prop where
  arity : ∀ vs H R, sp vs H R → vs.length = ps.length
  run : ∀ (A : Around) (outer : List Env) (s : Shared) (H : Hp) (args : Args) (us : List Value) (vs : List V) (R : Option V → Hp → Prop), Room k A → A.guards = some [] → Env0 P w K mg base A outer s H → BindsTo s fd args (ps.zip us) → Vals vs us → sp vs H R →
    codeAny (model P w) A (.call (.ref f) args) (fun r s' => match r with | .ok (.ret u) => GMade1 P w outer H s R k u s' | _ => False) s
/-- .. by its name -/
structure CalY (P : Program) (w : World) (K : PySem.W.Frag) (mg : Str → Option Value) (base : Heap) (k : Nat) (x : Str) (sp : SpY) : Prop where
  is : ∃ (f : Addr) (fd : FuncData) (ps : List Str), GFn1 P w K mg base k f fd ps sp ∧ mg x = some (.ref f) ∧ PySem.W.keepIn K (.ref f) = true ∧ ∀ us : List Value, us.length = ps.length → bindArgs fd ⟨us, []⟩ = pure (ps.zip us)
/-- woken for the first time -/
theorem wake1 {X : Cx} {pins : List (Addr × Obj)} {σ : LB.St} {H : Hp} {sc s : Shared} {u : Value} {R : Option V → Hp → Prop} {k : Nat} {A : Around} {E : Value → Shared → Prop} (hr : Room (k + 1) A) (gd : A.guards = some []) (fr : A.frames = some X.stack)
    (I : L2.Inv X pins σ H sc) (G : GMade1 X.prog X.w X.stack H sc R k u s) :
    wpAny (model X.prog X.w) A (pyNext u) (fun r s1 => (r = none ∧ ∃ H', L2.Inv X pins σ H' s1 ∧ R none H') ∨ ∃ v x H' a g, r = some v ∧ u = .ref a ∧ s1.heap.IsGen a g ∧ L2.Inv X pins σ H' s1 ∧ RelV x v ∧ R (some x) H') E s := by
  obtain ⟨a, g, c, rfl, hg, hgs, hos, hb, hl, hk, wake⟩ := G
  have behind : ∀ {r : Option V} {s1 s2 : Shared}, Went X.prog X.w X.stack H sc R r s1 → (∀ b o, s1.heap.get? b = some o → s2.heap.get? b = some o) → s2.os = s1.os → AllBare s2.gens → ∃ H', L2.Inv X pins σ H' s2 ∧ R r H' := by
    intro r s1 s2 h kp os2 b2
    obtain ⟨os1, _, H', un, hok, q⟩ := h
    exact ⟨H', I.call' (ch := []) (os2.trans os1) (un.trans (Un.kept kp)) (hok.kept kp) b2 (fun b z => by simp at z), q⟩
  refine next_genG (n := 1) (F := fun _ _ s1 => Went X.prog X.w X.stack H sc R none s1) (Er := fun _ _ => False) (Y := Y1G X.prog X.w X.stack H sc R a g) hr.hd hl (by have := hr.dp; omega) hg hgs ?_ (fun v s1 gs' hbare hy => ?_) (fun s1 hp h' kp => ?_) (fun e s1 z => z.elim)
  · exact ⟨rfl, wake A.in1 (s.setGen g .running) hr.in1 gd fr (fun b o e => e) hos (allBare_setGen hb rfl)⟩
  · obtain ⟨hg1, x, rv, hw⟩ := hy
    obtain ⟨H', I', q⟩ := behind (s2 := s1.setGen g gs') hw (fun b o e => e) rfl (allBare_setGen hw.2.1 hbare)
    exact .inr ⟨v, x, H', a, g, rfl, rfl, hg1, I', rv, q⟩
  · obtain ⟨H', I', q⟩ := behind (s2 := { s1.setGen g .finished with heap := h' }) hp kp rfl (allBare_setGen hp.2.1 rfl)
    exact .inl ⟨rfl, H', I', q⟩
/-! ### an expression whose value is a generator that has not begun -/
abbrev TGn1 := LB.St → Hp → (Option V → Hp → Prop) → Prop
structure PGn1 (X : Cx) (k : Nat) (e : Expr) (tg : TGn1) : Prop where
  run : ∀ (pins : List (Addr × Obj)) (s : Shared) (σ : LB.St) (H : Hp) (R : Option V → Hp → Prop), L2.Inv X pins σ H s → tg σ H R → wpAny (model X.prog X.w) X.A (eval e X.env)
    (fun u s' => ∃ H1 sc, L2.Inv X pins σ H1 sc ∧ GMade1 X.prog X.w X.stack H1 sc R k u s') X.xe s
def tCallY (sp : SpY) (t : TA) : TGn1 := fun σ H R => t σ H fun vs H1 => sp vs H1 R
section
variable {X : Cx} {j k : Nat} {x : Str} {sp : SpY} {p pos : Pos} {e : Expr} {es : List Expr} {t : TA}
theorem pgn_call (c : CalY X.prog X.w X.K X.mg X.base k x sp) (hr : Room j X.A) (hk : k ≤ j) (gd : X.A.guards = some []) (gl : Gl X x) (ha : PA X (e :: es) t) (dbg : (x == ("__debug__" : Str)) = false := by decide)
    (st : starEach (e :: es) X.env = (false, eval e X.env) :: starEach es X.env := by rfl) (pl : (backTo pos (starEach es X.env)).any (·.1) = false := by rfl) : PGn1 X k (.Call (.Name x p) (e :: es) [] pos) (tCallY sp t) := by
  obtain ⟨f, fd, ps, F, hm, kp, bn⟩ := c.is
  constructor
  intro pins s σ H R I h
  refine wpAny_Call_Name_kw (ld_glob I gl hm ?_ dbg)
  refine PySem.W.callWith_K (h₀ := X.base) I.ok.mod.kin kp ?_ st pl
  refine thn (ha.run pos pins s σ H _ I h) fun us s1 h1 => ?_
  obtain ⟨vs, H1, I1, r, q⟩ := h1
  have hl : us.length = ps.length := by rw [← r.length]; exact F.arity _ _ _ q
  refine ⟨I1.kIn, wpAny_call (codeAny_mono (F.run X.A X.stack s1 H1 ⟨us, []⟩ us vs R (hr.mono hk) gd I1.env0 (BindsTo.of_eq (bn us hl)) r q) fun r' s' z => ?_)⟩
  match r', z with
  | .ok (.ret u), z => exact ⟨H1, s1, I1, z⟩
  | .ok .next, z => exact False.elim z
  | .ok .brk, z => exact False.elim z
  | .ok .cont, z => exact False.elim z
  | .error _, z => exact False.elim z
end
/-- for x in g: body, the body never comes to its end -/
def tForY (tg : TGn1) (g : TG) (tb : TS) : TS := fun D σ H => tg σ H fun r H1 => match r with
  | none => D.nx σ H1
  | some v => g v σ H1 fun σ2 H2 => tb { nx := fun _ _ => False, rt := D.rt, bk := D.nx, ct := fun _ _ => False } σ2 H2
/-- the step ahead of the store: nothing -/
theorem go_gen {M : Model} {A : Around} {E : Value → Shared → Prop} {s : Shared} {tg : Expr} {a : Addr} {g : Nat} {v : Value} {Q : Unit → Shared → Prop} (h : s.heap.IsGen a g) (hQ : Q () s) : wpAny M A (letOwnedTupleGo tg (.ref a) v) Q E s := by
  obtain ⟨o, nm, qn, ho, hc, hd, _⟩ := h
  exact go_of ho hc hd (by decide) hQ
section
variable {X : Cx} {k : Nat} {iter tg : Expr} {body : List Stmt} {wg : TGn1} {g : TG} {tb : TS} {pos : Pos} {yl : V → Hp → Prop}
theorem ps_forY (nox : ∀ e s, X.xe e s → False) (hr : Room (k + 1) X.A) (gd : X.A.guards = some []) (hi : PGn1 X k iter wg) (hg : PG X tg g) (hb : PSs X body tb)
    (hs : ∀ x, foldedSetIterable iter X.env x = pure x := by intro _; rfl) : PS X (.For tg iter body [] pos) (tForY wg g tb) := by
  refine ⟨fun pins s σ H D I q => ?_⟩
  refine wpAny_For (thn (hi.run pins s σ H _ I q) fun u s1 h1 => ?_) hs
  obtain ⟨H1, sc, Ic, G⟩ := h1
  obtain ⟨a, gn, c, e, hgen, _⟩ := id G
  subst e
  refine wpAny_pyIter_gen hgen ?_
  refine codeAny_forLoop_any (fun _ s' => s' = s1) (fun n s' e => ?_) 0 rfl
  subst e
  refine wpAny_mono (wake1 (E := fun _ _ => False) hr gd I.ok.frames Ic G) (fun r s2 h2 => ?_) fun _ _ z => z.elim
  rcases h2 with ⟨rfl, H', I', q'⟩ | ⟨v, x, H', a', g', rfl, ea, hg', I', rv, q'⟩
  · exact wpAny_execs_nil ⟨σ, H', I', q'⟩
  · cases ea
    refine go_gen hg' ?_
    refine wpAny_mono (hg.run _ s2 σ H' x v _ I' rv q') (fun _ s3 h3 => ?_) fun e s' hx => (nox e s' hx).elim
    obtain ⟨σ3, H3, I3, q3⟩ := h3
    refine wpAny_mono (hb.run _ s3 σ3 H3 _ I3 q3) (fun f s4 h4 => ?_) fun e s' hx => (nox e s' hx).elim
    match f, h4 with
    | .next, ⟨_, _, _, z⟩ => exact z.elim
    | .cont, ⟨_, _, _, z⟩ => exact z.elim
    | .brk, ⟨σ4, H4, I4, z⟩ => exact ⟨σ4, H4, I4, z⟩
    | .ret u', ⟨v', σ4, H4, I4, r4, z⟩ => exact ⟨v', σ4, H4, I4, r4, z⟩
theorem g1_forY (hr : Room (k + 1) X.A) (gd : X.A.guards = some []) (hi : PGn1 X k iter wg) (hg : PG X tg g) (hb : G1B X yl body tb)
    (hs : ∀ x, foldedSetIterable iter X.env x = pure x := by intro _; rfl) : G1S X yl (.For tg iter body [] pos) (tForY wg g tb) := by
  refine ⟨fun A R Y s₀ c fs KK JJ gd' lv pins s σ H D gc kk I q => seg_For hs ?_⟩
  rw [gc.over]
  refine wpAny_mono (hi.run pins s σ H _ I q) (fun u s1 h1 => ?_) fun x s' hx => (gc.nox x s' hx).elim
  obtain ⟨H1, sc, Ic, G⟩ := h1
  obtain ⟨a, gn, cc, e, hgen, _⟩ := id G
  subst e
  refine wpAny_pyIter_gen hgen fun p => ?_
  have gl : G1C X A (.forLoop tg (.ref a) body [] X.env) (.ret (backK X.env KK JJ gd' lv) none (gd' false) (lv []) c p [] :: fs) id := g1c_loop gc rfl rfl
  refine seg_forTurn ?_
  rw [gl.over]
  refine wpAny_mono (wake1 (E := fun _ _ => False) hr gd I.ok.frames Ic G) (fun r s2 h2 => ?_) fun _ _ z => z
  rcases h2 with ⟨rfl, H', I', q'⟩ | ⟨v, x, H', a', g', rfl, ea, hg', I', rv, q'⟩
  · exact kk.ok s2 .next ⟨σ, H', I', q'⟩
  · cases ea
    refine go_gen hg' ?_
    refine wpAny_mono (hg.run _ s2 σ H' x v _ I' rv q') (fun _ s3 h3 JJ' => ?_) fun e s' hx => (gc.nox e s' hx).elim
    obtain ⟨σ3, H3, I3, q3⟩ := h3
    refine hb.run A R Y s₀ _ _ _ JJ' id id pins s3 σ3 H3 { nx := fun _ _ => False, rt := D.rt, bk := D.nx, ct := fun _ _ => False } gl ⟨fun s7 f h7 => ?_, kk.yl⟩ I3 q3
    match f, h7 with
    | .next, ⟨_, _, _, z⟩ => exact z.elim
    | .cont, ⟨_, _, _, z⟩ => exact z.elim
    | .brk, ⟨σ4, H4, I4, z⟩ => exact seg_leaf (.ok .next) (kk.ok s7 .next ⟨σ4, H4, I4, z⟩)
    | .ret u', ⟨v', σ4, H4, I4, r4, z⟩ => exact seg_leaf (.ok (.ret u')) (kk.ok s7 (.ret u') ⟨v', σ4, H4, I4, r4, z⟩)
end
end LB

namespace LB
open PySem PySem.Spec PyProof.Rows L2 GenW
theorem over_blt {A : Around} {id : String} {args : Args} {c : Code} {fs : List Frame} {k : Result → Sem PySem.Fin} {g : Bool} {l kp : List Value} {p : Pos} (h : plainId id = true) :
    A.over (.builtin id args) (.ret k none g l c p kp :: fs) = (A.over c fs).in1 := by
  have e : A.over (.builtin id args) (.ret k none g l c p kp :: fs) = (A.over (.whileLoop (.Name "" ⟨0, 0, 0, 0⟩) [] [] default) (.ret k none g l c p kp :: fs)).in1 := by
    have w1 := plainId_weight h args
    have w2 : (Code.whileLoop (.Name "" ⟨0, 0, 0, 0⟩) [] [] default).weight = 0 := rfl
    have u2 : (Code.whileLoop (.Name "" ⟨0, 0, 0, 0⟩) [] [] default).cUnits = 0 := rfl
    unfold Around.over
    rw [w1, plainId_units h args, Code.envs_of_weight w1, Code.guards_of_weight w1, w2, u2, Code.envs_of_weight w2, Code.guards_of_weight w2]
    rfl
  rw [e, over_loop rfl rfl]
end LB

namespace LB
open PySem PySem.Spec PyProof.Rows L2 GenW
/-! ### yield from a generator that hands out nothing -/
section
variable {P : Program} {w : World} {A : Around} {E : Value → Shared → Prop} {s : Shared}
/-- a generator's end, by __next__ -/
theorem special_gen {a : Addr} {g : Nat} {gs : GenState} {F : Nat → Shared → Shared → Prop} {Y : Protocol} {Q : Option Value → Shared → Prop} (hh : A.handled = none)
    (hl : s.heap.NoLimit) (hroom : A.depth < recursionLimit) (hg : s.heap.IsGen a g) (hgs : s.gens[g]? = some gs)
    (hgo : gs.Goes (model P w) A.in1 (fun n s₀ r s₁ => ((r = .ok (.ret .none) ∨ r = .ok .next) ∧ F n s₀ s₁) ∨ ∃ e, r = .error e ∧ (fun (_ : Value) (_ : Shared) => False) e s₁) Y 1 (.send .none) (s.setGen g .running))
    (hY : ∀ v s₁ kap, Y 0 (s.setGen g .running) v s₁ kap → False)
    (hP : ∀ s₁, F 1 (s.setGen g .running) s₁ → ∀ e h', StopX e h' → (∀ b o, s₁.heap.get? b = some o → h'.get? b = some o) → E e { s₁.setGen g .finished with heap := h' }) :
    wpAny (model P w) A (callSpecial? (.ref a) "__next__") Q E s := by
  refine wpAny_callSpecial?_slot (name := Str.ofString "__next__") hg.typeIs slot_gen_next (wpAny_call_entry slot_gen_next hg.typeIs entry_gen_next ?_ (args_gen_next _))
  show wpAny _ A.in1 (Builtin.Generator.genWake (.ref a) (.send .none)) _ _ s
  unfold Builtin.Generator.genWake
  refine wpAny_bind (wpAny_holding (wpAny_genNumber hg (wpAny_bind (wpAny_genState hgs ?_))))
  cases gs with
  | running => exact hgo.elim
  | finished => exact hgo.elim
  | _ =>
    refine wpAny_bind (wpAny_roomToWake hl hroom ?_)
    show wpAny _ A.in1 (.resume g (.send .none) [] _) _ _ s
    refine wpAny_resumeQ hgs hgo (fun x s₁ hx => ?_) (fun v s₁ gs' hb hv => (hY v s₁ _ hv).elim)
    rcases hx with ⟨hr, hp⟩ | ⟨e, _, he⟩
    · have hres : End.result (.ret x) = .returned .none := by rcases hr with hr | hr <;> rw [hr] <;> rfl
      first | rw [hres] | simp only [hres]
      show wpAny _ A.in1 (newExc (.type "StopIteration") [] >>= _) _ _ _
      refine wpAny_bind ?_
      simp only [newExc, newTuple]
      refine wpAny_bind (wpAny_newObj_type ?_ (by size_fits))
      refine wpAny_bind (m := firstArgMember _ _) (wpAny_of_eq (a := Value.none) (by first | rfl | (simp only [firstArgMember]; rfl)) ?_)
      refine wpAny_newObj_type ?_ (by size_fits)
      simp only [raiseNew]
      refine wpAny_bind (wpAny_bind (wpAny_handled ?_))
      first | rw [show A.in1.handled = none from hh] | rw [hh]
      refine wpAny_throw ?_
      refine hP s₁ hp _ _ ⟨_, _, _, rfl, Heap.get?_push_size _ rfl, rfl, rfl, ?_⟩ fun b o hb => Heap.get?_push_of_some _ (Heap.get?_push_of_some _ hb)
      first
        | rfl
        | (rw [Array.getElem?_append_left (by decide)]; rfl)
        | kernel_rfl
    · exact he.elim
end
theorem went_inv {X : Cx} {pins : List (Addr × Obj)} {σ : LB.St} {H : Hp} {sc s1 s2 : Shared} {R : Option V → Hp → Prop} {r : Option V} (I : L2.Inv X pins σ H sc) (h : Went X.prog X.w X.stack H sc R r s1)
    (kp : ∀ b o, s1.heap.get? b = some o → s2.heap.get? b = some o) (os2 : s2.os = s1.os) (b2 : AllBare s2.gens) : ∃ H', L2.Inv X pins σ H' s2 ∧ R r H' := by
  obtain ⟨os1, _, H', un, hok, q⟩ := h
  exact ⟨H', I.call' (ch := []) (os2.trans os1) (un.trans (Un.kept kp)) (hok.kept kp) b2 (fun b z => by simp at z), q⟩
def tFromY (tg : TGn1) : TS := fun D σ H => tg σ H fun r H1 => r = none ∧ D.nx σ H1
section
variable {X : Cx} {k : Nat} {e : Expr} {tg : TGn1} {yl : V → Hp → Prop} {yp pos : Pos}
theorem g1_from (hr : Room (k + 3) X.A) (gd : X.A.guards = some []) (he : PGn1 X k e tg) (hi : interactive X.env = false := by rfl) : G1S X yl (.Expr (.YieldFrom e yp) pos) (tFromY tg) := by
  refine ⟨fun A R Y s₀ c fs KK JJ gd' lv pins s σ H D gc kk I q => ?_⟩
  rw [exec_Expr X.env _ pos hi rfl]
  show Seg _ A R Y 1 s₀ c (.at pos fun _ => ((eval e X.env >>= fun v => (standAt yp >>= fun _ => yieldFrom X.env v)) >>= fun x => dropValue (.YieldFrom e yp) pos x).wrap KK JJ gd' lv) fs s
  refine seg_at (segw_bind2 ?_)
  rw [gc.over]
  refine wpAny_mono (he.run pins s σ H _ I q) (fun u s1 h1 => ?_) fun x s' hx => (gc.nox x s' hx).elim
  obtain ⟨H1, sc, Ic, G⟩ := h1
  obtain ⟨a, g, cc, eu, hgen, hgs, hos, hb, hl, hk, wake⟩ := G
  subst eu
  refine seg_at ?_
  show Seg _ A R Y 1 s₀ c ((yieldFrom X.env (.ref a)).wrap (fun b => (dropValue (.YieldFrom e yp) pos b).wrap KK JJ gd' lv) JJ gd' lv) fs s1
  unfold yieldFrom
  refine seg_bind_wrap (wpAny_typeOf hgen.typeIs ?_)
  rw [if_neg (by decide)]
  refine seg_bind_wrap (wpAny_holding (wpAny_pyIter_gen hgen ?_))
  refine seg_call fun p => ?_
  rw [den_yf]
  unfold Builtin.«proto.yield_from»
  try dsimp only
  refine seg_bind (wpAny_pure ?_)
  try dsimp only
  refine seg_bind (wpAny_attempt (wpAny_holding ?_))
  rw [if_neg Bool.false_ne_true, if_pos (show (Value.none == Value.none) = true from rfl)]
  refine wpAny_bind (wpAny_rule (wpAny_bind ?_))
  rw [over_blt plain_yf, gc.over]
  refine special_gen (gs := .fresh cc) (F := fun _ _ s2 => Went X.prog X.w X.stack H1 sc (fun r H1 => r = none ∧ D.nx σ H1) none s2) (Y := Y1G X.prog X.w X.stack H1 sc (fun r H1 => r = none ∧ D.nx σ H1) a g) (show X.A.in1.handled = none from hr.hd) hl (by have := hr.dp; show X.A.depth < _; omega) hgen hgs ?_ (fun v s2 kap hy => ?_) (fun s2 hp e h' hS kp => ?_)
  · exact ⟨rfl, wake X.A.in1.in1 (s1.setGen g .running) (hr.mono (by omega : k + 2 ≤ k + 3)).in1.in1 gd I.ok.frames (fun b o e => e) hos (allBare_setGen hb rfl)⟩
  · obtain ⟨_, x, _, _, _, H', _, _, q'⟩ := hy
    cases q'.1
  · obtain ⟨H', I', q'⟩ := went_inv Ic hp (s2 := { s2.setGen g .finished with heap := h' }) kp rfl (allBare_setGen hp.2.1 rfl)
    obtain ⟨ae, o, vs, rfl, hoa, hcls, hdat, h5⟩ := hS
    try dsimp only
    refine seg_bind (wpAny_endsTurn hoa hcls ?_)
    try dsimp only
    rw [if_pos rfl]
    first
      | refine seg_bind (wpAny_rule ?_)
      | (rw [if_neg Bool.false_ne_true]; refine seg_bind (wpAny_rule ?_))
      | (rw [if_neg Bool.false_ne_true]; refine seg_bind (wpAny_pure ?_); refine seg_bind (wpAny_rule ?_))
    refine seg_bind (wpAny_field hoa hdat h5 ?_)
    exact seg_leaf (.ok (.ret .none)) (kk.ok _ .next ⟨σ, H', I', q'.2⟩)
end
end LB

namespace LB
open PySem PySem.Spec PyProof.Rows L2 GenW
/-! ### a generator def's promise, by its body -/
abbrev X0 : XK := fun _ _ _ => False
abbrev gCx (P : Program) (w : World) (K : PySem.W.Frag) (mg : Str → Option Value) (base : Heap) (N : List Str) (qual : Str) (scope : Scope) (f : Addr) (cd : Value) (A : Around) (outer : List Env) (s : Shared) (H : Hp) : Cx := (cxOf CX0 P w K mg base N qual scope f cd A outer s H X0).nox
section
variable {P : Program} {w : World} {K : PySem.W.Frag} {mg : Str → Option Value} {base : Heap} {N ps : List Str} {qual : Str} {scope : Scope} {f : Addr} {cd : Value} {A : Around} {outer : List Env} {s s1 : Shared} {H H' : Hp} {σ : LB.St}
theorem inv_gc (I : L2.Inv (gcxOf P w K mg base N qual scope f cd A outer s H X0 []) [] σ H' s1) : L2.Inv (gCx P w K mg base N qual scope f cd A outer s H) [] σ H' s1 := by
  obtain ⟨ok, os, br, bs, lo, ce, fr, fc, pi, hk, ln⟩ := I
  obtain ⟨o1, o2, o3, o4, o5, o6, o7, o8, o9, o10, o11, o12, o13, o14, o15, o16, o17, o18⟩ := ok
  exact ⟨⟨o1, o2, o3, o4, o5, o6, o7, o8, o9, o10, o11, o12, o13, o14, o15, o16, o17, o18⟩, os, br, bs, lo, ce, fr, fc, pi, hk, ln⟩
theorem gf1_of {x : Str} {st : Stmt} {fd : FuncData} {k : Nat} {sp : SpY} (F : Fun K x qual st f fd) (S : GScope N ps (defScope st)) (ar : ∀ vs H R, sp vs H R → vs.length = ps.length)
    (bd : ∀ (cdv : Value) (A : Around) (outer : List Env) (s : Shared) (H : Hp) (vs : List V) (R : Option V → Hp → Prop), Room k (A.deeper (envOfC qual (defScope st) s.heap.objs.size f cdv)) → A.guards = some [] → sp vs H R →
      ∃ t, G1B (gCx P w K mg base N qual (defScope st) f cdv A outer s H) (fun v H' => R (some v) H') (defBody st) t ∧ t { nx := fun _ H' => R none H', rt := fun v H' => v = .non ∧ R none H' } (start N vs) H) :
    GFn1 P w K mg base (k + 1) f fd ps sp := by
  refine ⟨ar, fun A outer s H args us vs R room gd env0 binds vals hs => ?_⟩
  have hl := ar _ _ _ hs
  obtain ⟨_, _, _, _, _, _, cdv, _, _, efd, look, code⟩ := F.ex
  subst efd
  have KIn : K.In s.heap := env0.mod.kin.keeps fun a b c => (env0.bs a b c).1
  have lim : s.heap.NoLimit := env0.mod.nolimit.keeps fun a b c => (env0.bs a b c).1
  refine codeAny_call_generator room.depth (KIn _ _ look) rfl S.co S.gen rfl (PySem.W.codeRec_of KIn code) (binds _ _ _ _ (wpAny_newFunctionEnv_cells S.kind (fun z hz => ?_) fun env henv s1 IC => ?_))
  · obtain ⟨n, u⟩ := z
    rcases S.par n (List.of_mem_zip hz).1 with h | h
    · exact .inl h
    · exact .inr ⟨h, PySem.W.cellsFrom_some _ _ _ (.inl h)⟩
  subst henv
  have kp : ∀ b o, s.heap.get? b = some o → s1.heap.get? b = some o := IC.toInCall.keep
  have lim1 : s1.heap.NoLimit := lim.keeps kp
  refine ⟨lim1, ?_⟩
  obtain ⟨h1, tk, e1, _⟩ := IC.done
  have os1 : s1.os = s.os := by rw [e1]
  have gn1 : s1.gens = s.gens := by rw [e1]
  have lt1 : s.heap.objs.size < s1.heap.objs.size := IC.toInCall.ns.lt
  generalize hgo : ({ cls := Value.type "generator", data := Data.fields #[Value.int s1.gens.size 0, Value.str _ s1.toks, Value.str qual (s1.toks + 1)] } : Obj) = go
  have isg : ∀ h : Heap, h.get? s1.heap.objs.size = some go → h.IsGen s1.heap.objs.size s1.gens.size := fun h e => ⟨go, _, _, e, by rw [← hgo], by rw [← hgo], by rw [← hgo]⟩
  have nocell : ∀ v, go.data ≠ .cell v := fun v q => by rw [← hgo] at q; cases q
  have put : (s1.heap.push go).get? s1.heap.objs.size = some go := Heap.get?_push_size _ (by rw [← hgo]; rfl)
  refine ⟨s1.heap.objs.size, s1.gens.size, _, rfl, isg _ put, Array.getElem?_push_size .., os1, AllBare.push (by rw [gn1]; exact env0.bare) rfl, lim1.keeps fun b o e => Heap.get?_push_of_some _ e, fun b o e => Heap.get?_push_of_some _ (kp b o e), ?_⟩
  intro Aw s2 roomw gdw frw k2 os2 b2
  have e0w : Env0 P w K mg base Aw outer s H := ⟨frw, env0.mod, env0.bs, env0.bsz, env0.funs, env0.frf, env0.hok, env0.bare⟩
  obtain ⟨t, der, q⟩ := bd cdv Aw outer s H vs R (roomw.deeper _) gdw hs
  have I1 := inv_gc (inv_startG (E := X0) S roomw.hd e0w hl vals IC)
  have kp2 : ∀ b o, s1.heap.get? b = some o → s2.heap.get? b = some o := fun b o e => k2 b o (Heap.get?_push_of_some _ e)
  have I2 : L2.Inv (gCx P w K mg base N qual (defScope st) f cdv Aw outer s H) [] (start N vs) H s2 := I1.call' (ch := []) (os2.trans os1.symm) (Un.kept kp2) (I1.hok.kept kp2) b2 fun b z => by simp at z
  have hea : s2.heap.get? s1.heap.objs.size = some go := k2 _ _ put
  have I3 : L2.Inv (gCx P w K mg base N qual (defScope st) f cdv Aw outer s H) [(s1.heap.objs.size, go)] (start N vs) H s2 := I2.pins_of fun p hp => by
    obtain rfl := List.mem_singleton.mp hp
    exact ⟨hea, I1.hok.fresh (Nat.le_refl _), Nat.ne_of_gt lt1, I1.nofs (Nat.le_refl _), nocell⟩
  have went : ∀ {s3 : Shared} {H3 : Hp} {σ3 : LB.St} {r : Option V}, L2.Inv (gCx P w K mg base N qual (defScope st) f cdv Aw outer s H) [(s1.heap.objs.size, go)] σ3 H3 s3 → R r H3 → Went P w outer H s R r s3 := fun {s3 H3 σ3 r} J h => ⟨J.os, J.bare, H3, J.base, J.hok, h⟩
  refine seg_func ?_
  refine der.run Aw _ _ s2 _ [] _ _ id id [(s1.heap.objs.size, go)] s2 (start N vs) H _ ⟨over_func, rfl, rfl, rfl, fun e s' z => z⟩ ⟨fun s3 fl h3 => ?_, fun s3 v x σ3 H3 J rv hy kap => ?_⟩ I3 q
  · match fl, h3 with
    | .next, ⟨σ3, H3, J, h⟩ => exact seg_end (.ok (.ret .none)) (.inl ⟨.inl rfl, went J h⟩)
    | .brk, ⟨_, _, _, z⟩ => exact False.elim z
    | .cont, ⟨_, _, _, z⟩ => exact False.elim z
    | .ret u, ⟨v, σ3, H3, J, rv, ev, h⟩ =>
      subst ev
      have eu : u = Value.none := rv
      subst eu
      exact seg_end (.ok (.ret .none)) (.inl ⟨.inl rfl, went J h⟩)
  · exact ⟨isg _ (J.pin (s1.heap.objs.size, go) (List.mem_append_right _ List.mem_cons_self)).1, x, rv, went J hy⟩
end
end LB

/-! k25: what must precede, the plain mathematics. -/
namespace LB
open PySem PySem.Spec PyProof.Rows L2
section
variable {ops : List Op} {tol : Int}
/-- u ahead of v, as the law says it -/
def ahd (ops : List Op) (tol u v : Int) : Prop := u ≠ v ∧ fstL ops u + tol < lastB ops v
/-- no two values each ahead of the other -/
def NoCr (ops : List Op) (tol : Int) : Prop := ∀ u ∈ vals ops, ∀ v ∈ vals ops, u ≠ v → ¬ (fstL ops u + tol < lastB ops v ∧ fstL ops v + tol < lastB ops u)
def two (ops : List Op) (tol u v : Int) : Prop := ahd ops tol u v ∨ ∃ b ∈ vals ops, ahd ops tol u b ∧ ahd ops tol b v
theorem three {a b c d : Int} (nc : NoCr ops tol) (ha : a ∈ vals ops) (hb : b ∈ vals ops) (hc : c ∈ vals ops) (hd : d ∈ vals ops) (h1 : ahd ops tol a b) (h2 : ahd ops tol b c) (h3 : ahd ops tol c d) : ahd ops tol a d := by
  obtain ⟨n1, l1⟩ := h1
  obtain ⟨n2, l2⟩ := h2
  obtain ⟨n3, l3⟩ := h3
  have c1 : lastB ops b ≤ fstL ops c + tol := by
    have := nc b hb c hc n2
    omega
  have c2 : lastB ops a ≤ fstL ops b + tol := by
    have := nc a ha b hb n1
    omega
  refine ⟨fun e => ?_, by omega⟩
  subst e
  have := nc c hc a ha n3
  omega
theorem two_trans {a b c : Int} (nc : NoCr ops tol) (ha : a ∈ vals ops) (hb : b ∈ vals ops) (hc : c ∈ vals ops) (h1 : two ops tol a b) (h2 : two ops tol b c) : two ops tol a c := by
  rcases h1 with h1 | ⟨x, hx, x1, x2⟩
  · rcases h2 with h2 | ⟨y, hy, y1, y2⟩
    · exact .inr ⟨b, hb, h1, h2⟩
    · exact .inl (three nc ha hb hy hc h1 y1 y2)
  · rcases h2 with h2 | ⟨y, hy, y1, y2⟩
    · exact .inl (three nc ha hx hb hc x1 x2 h2)
    · exact .inr ⟨y, hy, three nc ha hx hb hy x1 x2 y1, y2⟩
theorem two_irr {a : Int} (nc : NoCr ops tol) (ha : a ∈ vals ops) : ¬ two ops tol a a := by
  rintro (⟨n, _⟩ | ⟨b, hb, ⟨n1, l1⟩, ⟨n2, l2⟩⟩)
  · exact n rfl
  · exact nc a ha b hb n1 ⟨l1, l2⟩
/-- as the program says it -/
theorem ahd_is (ok : ∀ o ∈ ops, o.ok) {u v : Int} (hu : u ∈ vals ops) (hv : v ∈ vals ops) (h1 : tol ≤ 10000000000000000) : isBef ops tol u v = true ↔ ahd ops tol u v := by
  rw [← due_is ok hu hv h1]
  unfold dueL ahd
  by_cases e : u = v
  · rw [if_pos e]; simp [e]
  · rw [if_neg e]; simp [e]
theorem bef_is (ok : ∀ o ∈ ops, o.ok) {u v : Int} (hu : u ∈ vals ops) (hv : v ∈ vals ops) (n : u ≠ v) (h1 : tol ≤ 10000000000000000) : befV ops tol u v = true ↔ fstL ops u + tol < lastB ops v := by
  have z := ahd_is (tol := tol) ok hu hv h1
  unfold isBef at z
  rw [if_neg n] at z
  rw [z]
  exact ⟨fun h => h.2, fun h => ⟨n, h⟩⟩
end
/-! ### what is known of a log that is explained -/
/-- every value 0 or written; no read ends surely ahead of its write; no crossing -/
structure Fine (ops : List Op) (tol : Int) : Prop where
  ok : ∀ o ∈ ops, o.ok
  nd : (wr ops).Nodup
  t0 : 0 ≤ tol
  t1 : tol ≤ 10000000000000000
  kn : ∀ o ∈ ops, o.v = 0 ∨ o.v ∈ wr ops
  ea : ∀ r ∈ ops, ∀ w ∈ ops, w.w = true → w.v = r.v → ¬ (r.e + tol < w.b)
  nc : NoCr ops tol
end LB

open PySem PySem.Spec PyProof.Rows L2 LB GenW
/-! the tactic: one step of a reading; many -/
local macro_rules | `(tactic| walk_at "w1_17") => `(tactic| first
  | with_reducible refine w_seq ?_ | with_reducible refine w_asg ?_ | with_reducible refine w_drop ?_ | with_reducible refine w_ret ?_ | with_reducible refine w_next ?_
  | with_reducible refine w_ifs ?_ | with_reducible refine w_forR1 ?_ | with_reducible refine w_forR2 ?_ | with_reducible refine w_forL ?_ | with_reducible refine w_forT ?_ | with_reducible refine w_name ?_ | with_reducible refine w_sub ?_ | with_reducible refine w_par ?_
  | with_reducible refine w_var (by with_unfolding_all rfl) ?_ | with_reducible refine w_c ?_ | with_reducible refine w_op ?_ | with_reducible refine w_un ?_
  | with_reducible refine w_test ?_ | with_reducible refine w_tb ?_ | with_reducible refine w_nil ?_ | with_reducible refine w_cons ?_ | with_reducible refine w_cb ?_ | with_reducible refine w_call ?_
  | with_reducible refine w_not ?_ | with_reducible refine w_and ?_ | with_reducible refine w_or ?_ | with_reducible refine w_andV ?_ | with_reducible refine w_orV ?_ | with_reducible refine w_notV ?_
  | with_reducible refine w_ife ?_ | with_reducible refine w_chain ?_ | with_reducible refine w_bm ?_ | with_reducible refine w_sl ?_ | with_reducible refine w_part ?_ | with_reducible refine w_nopart ?_
  | with_reducible refine w_exb ?_ | with_reducible refine w_exi ?_ | with_reducible refine w_ex2 ?_ | with_reducible refine w_ex3 ?_ | with_reducible refine w_lstrg ?_ | with_reducible refine w_rg2 ?_ | with_reducible refine w_rg1 ?_ | with_reducible refine w_exij ?_ | with_reducible refine w_tup ?_ | with_reducible refine w_lst ?_
  | with_reducible refine o_add ?_ | with_reducible refine o_sub ?_ | with_reducible refine o_neg ?_ | with_reducible refine o_lt ?_ | with_reducible refine o_le ?_ | with_reducible refine o_gt ?_ | with_reducible refine o_ge ?_
  | with_reducible refine o_ixL (by assumption) (by decide) (by with_unfolding_all rfl) ?_ | with_reducible refine o_ixT (by assumption) (by decide) (by with_unfolding_all rfl) ?_
  | with_reducible refine o_mod (by first | decide | omega) ?_ | with_reducible refine o_mul (by first | decide | omega) ?_ | with_reducible refine o_fdv (by first | decide | omega) (by first | decide | omega) ?_ | with_reducible refine o_setL (by assumption) (by decide) (by simp) ?_
  | with_reducible refine oo_addi ?_ | with_reducible refine oo_sub ?_ | with_reducible refine oo_neg ?_ | with_reducible refine w_rev ?_ | with_reducible refine w_m0 ?_
  | with_reducible refine w_par3 ?_ | with_reducible refine w_tyl (by assumption) ?_
  | with_reducible refine o_abs ?_ | with_reducible refine o_eqs (by with_unfolding_all rfl) ?_ | with_reducible refine o_nes (by with_unfolding_all rfl) ?_ | with_reducible refine o_max2 ?_ | with_reducible refine o_min2 ?_ | with_reducible refine o_isiX (by assumption) ?_ | with_reducible refine o_lenl (by assumption) ?_ | with_reducible refine o_lent (by assumption) ?_ | with_reducible refine o_int1b ?_)
local macro_rules | `(tactic| walk_at "ws_17") => `(tactic| repeat (first | walk_at "w1_17" | dsimp only [List.set_cons_zero, List.set_cons_succ]))
namespace LB
/-! ### k25: the program's side -/
def spCrossed : Sp := fun vs H Q _ => ∃ (a b : Addr) (f1 f2 : V) (l1 l2 tol : Int), vs = [.ref a, .ref b, .int tol] ∧ H a = some (.tup [f1, .int l1]) ∧ H b = some (.tup [f2, .int l2]) ∧ (f1 = .non ∨ ∃ i, f1 = .int i) ∧ (f2 = .non ∨ ∃ i, f2 = .int i) ∧ Q (.bl (spBef f1 tol l2 && spBef f2 tol l1)) H
theorem spCrossed_arity {vs : List V} {H : Hp} {Q : VK} {E : XK} (h : spCrossed vs H Q E) : vs.length = 3 := by obtain ⟨_, _, _, _, _, _, _, rfl, _⟩ := h; rfl
def SpansD (H : Hp) (d : Addr) (ops : List Op) : Prop := ∃ f : Int → V, H d = some (.dK (mkD (keysN ops) f)) ∧ ∀ v ∈ keysN ops, ∃ t, f v = .ref t ∧ H t = some (spanT ops v)
theorem SpansD.at {H : Hp} {d : Addr} {ops : List Op} (h : SpansD H d ops) : SpansAt H d ops := by
  obtain ⟨f, h1, h2⟩ := h
  exact ⟨f, .inl h1, h2⟩
def spSpansD : Sp := fun vs H Q _ => ∃ (t : Addr) (ops : List Op), vs = [.ref t] ∧ LogAt H t ops ∧ ops.length ≤ 200 ∧ ∀ (p : Addr) (H' : Hp), Keep NoS H H' → H p = none → SpansD H' p ops → Q (.ref p) H'
theorem spSpansD_arity {vs : List V} {H : Hp} {Q : VK} {E : XK} (h : spSpansD vs H Q E) : vs.length = 1 := by obtain ⟨_, _, rfl, _⟩ := h; rfl
/-- a generator that hands out nothing -/
def spNone : SpY := fun vs H R => ∃ (t : Addr) (ops : List Op) (tol : Int), vs = [.ref t, .int tol] ∧ LogAt H t ops ∧ ops.length ≤ 200 ∧ Fine ops tol ∧ ∀ H', Keep NoS H H' → R none H'
theorem spNone_arity {vs : List V} {H : Hp} {R : Option V → Hp → Prop} (h : spNone vs H R) : vs.length = 2 := by obtain ⟨_, _, _, rfl, _⟩ := h; rfl
abbrev spWithin0 : SpY := spNone
abbrev spPairs0 : SpY := spNone
abbrev spFaults0 : SpY := spNone
def spFirst0 : Sp := fun vs H Q _ => ∃ (t : Addr) (ops : List Op) (tol : Int), vs = [.ref t, .int tol] ∧ LogAt H t ops ∧ ops.length ≤ 200 ∧ Fine ops tol ∧ ∀ H', Keep NoS H H' → Q .non H'
theorem spFirst0_arity {vs : List V} {H : Hp} {Q : VK} {E : XK} (h : spFirst0 vs H Q E) : vs.length = 2 := by obtain ⟨_, _, _, rfl, _⟩ := h; rfl
def spDemandE : Sp := spFirst0
theorem spDemandE_arity {vs : List V} {H : Hp} {Q : VK} {E : XK} (h : spDemandE vs H Q E) : vs.length = 2 := spFirst0_arity h
def spIsAhead : Sp := fun vs H Q _ => ∃ (d : Addr) (ops : List Op) (tol u v : Int), vs = [.ref d, .int tol, .int u, .int v] ∧ SpansAt H d ops ∧ u ∈ vals ops ∧ v ∈ vals ops ∧ Q (.bl (isBef ops tol u v)) H
theorem spIsAhead_arity {vs : List V} {H : Hp} {Q : VK} {E : XK} (h : spIsAhead vs H Q E) : vs.length = 4 := by obtain ⟨_, _, _, _, _, rfl, _⟩ := h; rfl
/-- the values right ahead of v, as the program finds them -/
def befL (ops : List Op) (tol v : Int) : List Int := (keysN ops).filter fun u => isBef ops tol u v
def AheadAt (H : Hp) (d : Addr) (ops : List Op) (tol : Int) : Prop := ∃ f : Int → V, Rd H d (.dK (mkD (keysN ops) f)) ∧ ∀ v ∈ keysN ops, ∃ l, f v = .ref l ∧ H l = some (.lst ((befL ops tol v).map V.int))
theorem AheadAt.keep {H H' : Hp} {d : Addr} {ops : List Op} {tol : Int} (h : AheadAt H d ops tol) (k : Keep NoS H H') : AheadAt H' d ops tol := by
  obtain ⟨f, h1, h2⟩ := h
  refine ⟨f, ?_, fun v hv => ?_⟩
  · rcases h1 with h1 | ⟨o, h1⟩
    · exact .inl (k.all _ _ id h1)
    · exact .inr ⟨o, k.all _ _ id h1⟩
  · obtain ⟨t, e1, e2⟩ := h2 v hv
    exact ⟨t, e1, k.all _ _ id e2⟩
theorem AheadAt.get {H : Hp} {d : Addr} {ops : List Op} {tol v : Int} (h : AheadAt H d ops tol) (hv : v ∈ vals ops) : ∃ l, DGet H d (.int v) (some (.ref l)) ∧ H l = some (.lst ((befL ops tol v).map V.int)) := by
  obtain ⟨f, h1, h2⟩ := h
  have hk := keysN_vals.mpr hv
  obtain ⟨l, e1, e2⟩ := h2 v hk
  exact ⟨l, .inl ⟨_, .inl v, h1, rfl, by rw [mkD_val, if_pos hk, e1]⟩, e2⟩
def spAheadV : Sp := fun vs H Q _ => ∃ (t : Addr) (ops : List Op) (tol : Int), vs = [.ref t, .int tol] ∧ LogAt H t ops ∧ ops.length ≤ 200 ∧ ∀ (p : Addr) (H' : Hp), Keep NoS H H' → AheadAt H' p ops tol → Q (.ref p) H'
theorem spAheadV_arity {vs : List V} {H : Hp} {Q : VK} {E : XK} (h : spAheadV vs H Q E) : vs.length = 2 := by obtain ⟨_, _, _, rfl, _⟩ := h; rfl
/-- u right ahead of v, or ahead of one right ahead of v -/
def twoB (ops : List Op) (tol u v : Int) : Bool := isBef ops tol u v || (vals ops).any fun b => isBef ops tol u b && isBef ops tol b v
def TwoL (ops : List Op) (tol v : Int) (ns : List Int) : Prop := ns.Pairwise (· < ·) ∧ ∀ k, k ∈ ns ↔ k ∈ vals ops ∧ twoB ops tol k v = true
def spTwo : Sp := fun vs H Q _ => ∃ (d : Addr) (ops : List Op) (tol v : Int), vs = [.ref d, .int v] ∧ AheadAt H d ops tol ∧ ops.length ≤ 200 ∧ v ∈ vals ops ∧ ∀ (p : Addr) (H' : Hp) (ns : List Int), Keep NoS H H' → TwoL ops tol v ns → H' p = some (.lst (ns.map V.int)) → Q (.ref p) H'
theorem spTwo_arity {vs : List V} {H : Hp} {Q : VK} {E : XK} (h : spTwo vs H Q E) : vs.length = 2 := by obtain ⟨_, _, _, _, rfl, _⟩ := h; rfl
def spPreceding : Sp := fun vs H Q _ => ∃ (t : Addr) (ops : List Op) (tol v : Int), vs = [.ref t, .int tol, .int v] ∧ LogAt H t ops ∧ ops.length ≤ 200 ∧ v ∈ vals ops ∧ ∀ (p : Addr) (H' : Hp) (ns : List Int), Keep NoS H H' → TwoL ops tol v ns → H' p = some (.lst (ns.map V.int)) → Q (.ref p) H'
theorem spPreceding_arity {vs : List V} {H : Hp} {Q : VK} {E : XK} (h : spPreceding vs H Q E) : vs.length = 3 := by obtain ⟨_, _, _, _, rfl, _⟩ := h; rfl
def spMust : Sp := fun vs H Q _ => ∃ (t : Addr) (ops : List Op) (tol u v : Int), vs = [.ref t, .int tol, .int u, .int v] ∧ LogAt H t ops ∧ ops.length ≤ 200 ∧ Fine ops tol ∧ u ∈ vals ops ∧ v ∈ vals ops ∧ ∀ H', Keep NoS H H' → Q (.bl (twoB ops tol u v)) H'
theorem spMust_arity {vs : List V} {H : Hp} {Q : VK} {E : XK} (h : spMust vs H Q E) : vs.length = 4 := by obtain ⟨_, _, _, _, _, rfl, _⟩ := h; rfl
def t_are_spans_crossed (K : PySem.W.Frag) : TS :=
  (tRet (tAndV (tCall spSpanBefore [] E0 (tCons (tVar 0) (tCons (tVar 1) (tCons (tVar 2) tNil)))) (tCall spSpanBefore [] E0 (tCons (tVar 1) (tCons (tVar 0) (tCons (tVar 2) tNil))))))

def t__pairs_before_each_other_1 (K : PySem.W.Frag) (yl : V → Hp → Prop) : TS :=
  (tIfS (tB (tCall spCrossed [] E0 (tCons (tDGet (tVar 3) (tVar 7)) (tCons (tDGet (tVar 3) (tVar 8)) (tCons (tVar 1) tNil)))))
    (tY1 yl (tTup (tCons (tVar 7) (tCons (tVar 8) tNil)))) tNext)

def t__pairs_before_each_other_2 (K : PySem.W.Frag) (yl : V → Hp → Prop) : TS :=
  (tFor (iSeq K (tSl (rSlAny K) (tVar 4) (tPart (tOp (rAddA K) (tVar 6) (tC (V.int 1)))) tNoPart)) (gName 8)
    (t__pairs_before_each_other_1 K yl))

def t__pairs_before_each_other (K : PySem.W.Frag) (yl : V → Hp → Prop) : TS :=
  (tSeq (tAsg (tCall spWritesOf [] E0 (tCons (tVar 0) tNil)) (gName 2))
    (tSeq (tAsg (tCall spSpansD [] E0 (tCons (tVar 0) tNil)) (gName 3))
    (tSeq (tAsg (tLc (iSeq K (tCall spValues [] E0 (tCons (tVar 0) tNil))) (gName 5) (tOr (tTest (tOp (rEqA K) (tVar 5) (tC (V.int 0)))) (tB (tDIn (tVar 5) (tVar 2)))) (tVar 5) [5]) (gName 4))
    (tFor (iEnA K (tCons (tVar 4) tNil)) (gTup K 2 (gCons (gName 6) (gCons (gName 7) gNil)))
    (t__pairs_before_each_other_2 K yl)))))

def t_faults_within_values_1 (K : PySem.W.Frag) (yl : V → Hp → Prop) : TS :=
  (tIfS (tAnd (tTest (tOp (rNeA K) (tOp (rIx K) (tVar 4) (tC (V.int 1))) (tC (V.int 0)))) (tB (tDNotIn (tOp (rIx K) (tVar 4) (tC (V.int 1))) (tVar 2))))
    (tY1 yl (tTup (tCons (tC (V.str "unwritten")) (tCons (tVar 3) tNil)))) tNext)

def t_faults_within_values_2 (K : PySem.W.Frag) (yl : V → Hp → Prop) : TS :=
  (tIfS (tAnd (tB (tDIn (tOp (rIx K) (tVar 4) (tC (V.int 1))) (tVar 2))) (tB (tCall spSurely [] E0 (tCons (tVar 0) (tCons (tVar 1) (tCons (tVar 3) (tCons (tDGet (tVar 2) (tOp (rIx K) (tVar 4) (tC (V.int 1)))) tNil)))))))
    (tY1 yl (tTup (tCons (tC (V.str "early")) (tCons (tVar 3) (tCons (tDGet (tVar 2) (tOp (rIx K) (tVar 4) (tC (V.int 1)))) tNil))))) tNext)

def t_faults_within_values (K : PySem.W.Frag) (yl : V → Hp → Prop) : TS :=
  (tSeq (tAsg (tCall spWritesOf [] E0 (tCons (tVar 0) tNil)) (gName 2))
    (tSeq (tFor (iEnA K (tCons (tVar 0) tNil)) (gTup K 2 (gCons (gName 3) (gCons (gName 4) gNil)))
    (t_faults_within_values_1 K yl))
    (tFor (iEnA K (tCons (tVar 0) tNil)) (gTup K 2 (gCons (gName 3) (gCons (gName 4) gNil)))
    (t_faults_within_values_2 K yl))))

def t_faults_1 (K : PySem.W.Frag) (yl : V → Hp → Prop) : TS :=
  (tIfS (tTest (tOp (rEqA K) (tVar 4) (tC (V.int 0))))
    (tY1 yl (tTup (tCons (tC (V.str "late")) (tCons (tDGet (tVar 2) (tVar 5)) (tCons (tDGet (tVar 3) (tVar 4)) tNil))))) (tY1 yl (tTup (tCons (tC (V.str "crossed")) (tCons (tDGet (tVar 2) (tVar 4)) (tCons (tDGet (tVar 3) (tVar 5)) (tCons (tDGet (tVar 2) (tVar 5)) (tCons (tDGet (tVar 3) (tVar 4)) tNil))))))))

def t_faults (K : PySem.W.Frag) (yl : V → Hp → Prop) : TS :=
  (tSeq (tFromY (tCallY spWithin0 (tCons (tVar 0) (tCons (tVar 1) tNil))))
    (tSeq (tAsg (tCall spEnded [] E0 (tCons (tVar 0) tNil)) (gName 2))
    (tSeq (tAsg (tCall spBegun [] E0 (tCons (tVar 0) tNil)) (gName 3))
    (tForY (tCallY spPairs0 (tCons (tVar 0) (tCons (tVar 1) tNil))) (gTup K 2 (gCons (gName 4) (gCons (gName 5) gNil)))
    (t_faults_1 K yl)))))

def t_first_fault_1 (K : PySem.W.Frag) : TS :=
  (tRet (tVar 2))

def t_first_fault (K : PySem.W.Frag) : TS :=
  (tSeq (tForY (tCallY spFaults0 (tCons (tVar 0) (tCons (tVar 1) tNil))) (gName 2)
    (t_first_fault_1 K))
    (tRet (tC V.non)))

def t_demand_explained (K : PySem.W.Frag) : TS :=
  (tSeq (tAsg (tCall spFirst0 [] E0 (tCons (tVar 0) (tCons (tVar 1) tNil))) (gName 2))
    (tIfS (tTest (tOp rNotA (tVar 2) (tC V.non)))
    tNever tNext))

def t__is_ahead (K : PySem.W.Frag) : TS :=
  (tRet (tAndV (tOp (rNeA K) (tVar 2) (tVar 3)) (tCall spSpanBefore [] E0 (tCons (tDGet (tVar 0) (tVar 2)) (tCons (tDGet (tVar 0) (tVar 3)) (tCons (tVar 1) tNil))))))

def t__values_ahead (K : PySem.W.Frag) : TS :=
  (tSeq (tAsg (tCall spSpansD [] E0 (tCons (tVar 0) tNil)) (gName 2))
    (tRet (tLockE (tDc (iKeys (tVar 2)) (gName 3) tYes (tVar 3) (tLc (iKeys (tVar 2)) (gName 4) (tB (tCall spIsAhead [] E0 (tCons (tVar 2) (tCons (tVar 1) (tCons (tVar 4) (tCons (tVar 3) tNil)))))) (tVar 4) [4]) [3]))))

def t__within_two_steps_1 (K : PySem.W.Frag) (w : World) : TS :=
  (tDrop (tSAdd w (tVar 2) (tCons (tVar 4) tNil)))

def t__within_two_steps_2 (K : PySem.W.Frag) (w : World) : TS :=
  (tSeq (tDrop (tSAdd w (tVar 2) (tCons (tVar 3) tNil)))
    (tFor (iSeq K (tDGet (tVar 0) (tVar 3))) (gName 4)
    (t__within_two_steps_1 K w)))

def t__within_two_steps (K : PySem.W.Frag) (w : World) : TS :=
  (tSeq (tAsg (tCB (rSet0 w) tNil) (gName 2))
    (tSeq (tFor (iSeq K (tDGet (tVar 0) (tVar 1))) (gName 3)
    (t__within_two_steps_2 K w))
    (tRet (tCB (rSortS w) (tCons (tVar 2) tNil)))))

def t__preceding (K : PySem.W.Frag) : TS :=
  (tRet (tCall spTwo [] E0 (tCons (tCall spAheadV [] E0 (tCons (tVar 0) (tCons (tVar 1) tNil))) (tCons (tVar 2) tNil))))

def t_must_precede (K : PySem.W.Frag) : TS :=
  (tSeq (tDrop (tCall spDemandE [] E0 (tCons (tVar 0) (tCons (tVar 1) tNil))))
    (tSeq (tDrop (tCall spDemand [] E0 (tCons (tVar 0) (tCons (tVar 2) tNil))))
    (tSeq (tDrop (tCall spDemand [] E0 (tCons (tVar 0) (tCons (tVar 3) tNil))))
    (tRet (tOp (rInA K) (tVar 2) (tCall spPreceding [] E0 (tCons (tVar 0) (tCons (tVar 1) (tCons (tVar 3) tNil)))))))))

theorem o_inIntsY {K : PySem.W.Frag} {H : Hp} {Q : VK} {a : Addr} {ws : List Int} {z : Int} (e : H a = some (.lst (ws.map V.int))) (q : Q (.bl (decide (z ∈ ws))) H) : rInA K (.int z) (.ref a) H Q :=
  .inl ⟨a, _, rfl, .inl (.inl (.inl e)), rfl, flat_ints, by rw [if_neg (by simp), inV_ints]; exact q⟩
theorem pureD_spans_of {K : PySem.W.Frag} {vs : List V} {H : Hp} {Q : VK} {E : XK} (h : spSpansD vs H Q E) : t_spans_of K { nx := fun _ H' => Q .non H', rt := Q } (start ["log", "ended", "begun", "spans", "value"] vs) H := by
  obtain ⟨t, ops, rfl, lg, few, q⟩ := h
  show t_spans_of K _ [some (.ref t), none, none, none, none] H
  unfold t_spans_of
  walk_at "ws_17"
  refine ⟨t, ops, rfl, lg, few, fun d1 H1 k1 z1 e1 => ?_⟩
  walk_at "ws_17"
  refine ⟨t, ops, rfl, lg.keep k1, few, fun d2 H2 k2 z2 e2 => ?_⟩
  walk_at "ws_17"
  have kk := keysN_facts ops
  have ed1 := k2.all _ _ id e1
  have lg2 := (lg.keep k1).keep k2
  have ne21 : d2 ≠ d1 := fun z => by rw [z] at z2; rw [e1] at z2; cases z2
  refine ⟨d1, _, ed1, trivial, fun od => ?_⟩
  have kL : Keep (At d1) H2 (upd H2 d1 (.frz od (.dK (mkD (keysN ops) (bstF kE ops ops.length))))) := Keep.lock ed1
  refine ⟨.ref d1, by with_unfolding_all rfl, d1, od, rfl, .inl ⟨_, upd_same, fun D hD => ?_⟩⟩
  have zD : H2 D = none := by
    by_cases z : D = d1
    · rw [z, upd_same] at hD; cases hD
    · rwa [upd_ne z] at hD
  have nD : D ≠ d1 := fun z => by rw [z, upd_same] at hD; cases hD
  refine dc_it walk_keys (fun n H' => Keep (At d1) H2 H' ∧ H' d1 = some (.frz od (.dK (mkD (keysN ops) (bstF kE ops ops.length)))) ∧ ∃ f : Int → V, H' D = some (.dK (mkD ((keysN ops).take n) f)) ∧ ∀ v ∈ (keysN ops).take n, ∃ u, f v = .ref u ∧ H' u = some (.tup [.int (firstE ops v), .int (lastB ops v)]))
    ⟨kL.putO (o := .lst []) zD, by rw [upd_ne (Ne.symm nD)]; exact upd_same, fun _ => .non, upd_same, fun v hv => by simp at hv⟩ (fun n H' _ h => h.2.1) ?_ ?_
  · rintro n x H3 H4 hn ⟨k3, f1, f, hf, hv⟩ ⟨rfl, k, y, hk, rfl⟩
    obtain ⟨v, ev, rfl, rfl⟩ := mkD_at hk
    refine ⟨rfl, ?_⟩
    simp only [tYes, if_true]
    walk_at "ws_17"
    have hvk : v ∈ keysN ops := List.mem_of_getElem? ev
    have hvv := keysN_vals.mp hvk
    obtain ⟨qe, be⟩ := bE_best hvv
    obtain ⟨qb, bb⟩ := bB_best hvv
    have lg3 := lg2.keep k3
    obtain ⟨xs, u1, a1, a2, a3⟩ := lg3.get be.at_
    obtain ⟨xs', u2, b1, b2, b3⟩ := lg3.get bb.at_
    refine w_dget ?_
    walk_at "ws_17"
    refine o_dgetR (.inr ⟨_, f1⟩) hvk ?_
    refine o_ixt (n := bE ops v) a1 a2 ?_
    walk_at "ws_17"
    refine w_dget ?_
    walk_at "ws_17"
    refine o_dget (k3.all _ _ ne21 e2) hvk ?_
    refine o_ixt (n := bB ops v) b1 b2 ?_
    walk_at "ws_17"
    refine k_tup (by simp; decide) fun u H5 n5 => ?_
    have hD5 := n5.get hf
    have few2 : (((keysN ops).take n)).length ≤ 1000 := by rw [List.length_take]; omega
    refine ⟨_, .inl v, rfl, hD5, by rw [mkD_len]; exact Nat.lt_of_le_of_lt few2 (by decide), (k3.trans n5.keep).putO (o := .lst []) zD, by rw [upd_ne (Ne.symm nD)]; exact n5.get f1, fun w => if w = v then .ref u else f w, ?_, ?_⟩
    · have nv : v ∉ (keysN ops).take n := fun z => by
        obtain ⟨m, hm, em⟩ := List.mem_iff_getElem.mp z
        rw [List.length_take] at hm
        rw [List.getElem_take] at em
        obtain ⟨hn', en⟩ := List.getElem?_eq_some_iff.mp ev
        have := (List.getElem_inj kk.2.1).mp (em.trans en.symm)
        omega
      rw [upd_same, mkD_put, if_neg nv, List.take_add_one, ev]
      rfl
    · intro w hw
      rw [List.take_add_one, ev] at hw
      have uD : u ≠ D := fun z => by have := n5.no; rw [z, hf] at this; cases this
      by_cases z : w = v
      · subst z
        refine ⟨u, if_pos rfl, ?_⟩
        rw [upd_ne uD, n5.at_, firstE_is be, lastB_is bb]
      · simp only [Option.toList_some, List.mem_append, List.mem_singleton, z, or_false] at hw
        obtain ⟨u0, c1, c2⟩ := hv w hw
        refine ⟨u0, (if_neg z).trans c1, ?_⟩
        rw [upd_ne (fun y => by rw [y, hf] at c2; cases c2)]
        exact n5.get c2
  · rintro H3 ⟨k3, f1, f, hf, hv⟩
    rw [mkD_len, List.take_length] at hf hv
    refine ⟨f1, ?_⟩
    have k4 := k3.unlock ed1
    have hf4 : (upd H3 d1 (.dK (mkD (keysN ops) (bstF kE ops ops.length)))) D = some (.dK (mkD (keysN ops) f)) := by rw [upd_ne nD]; exact hf
    have hv4 : ∀ v ∈ keysN ops, ∃ u, f v = .ref u ∧ (upd H3 d1 (.dK (mkD (keysN ops) (bstF kE ops ops.length)))) u = some (.tup [.int (firstE ops v), .int (lastB ops v)]) := fun v h => by
      obtain ⟨u, c1, c2⟩ := hv v h
      exact ⟨u, c1, by rw [upd_ne (fun y => by rw [y, f1] at c2; cases c2)]; exact c2⟩
    generalize (upd H3 d1 (.dK (mkD (keysN ops) (bstF kE ops ops.length)))) = H4 at k4 hf4 hv4
    walk_at "ws_17"
    refine w_din ?_
    walk_at "ws_17"
    refine o_din hf4 ?_
    walk_at "ws_17"
    have zDH : H D = none := free_of (k1.trans k2) id zD
    refine w_iteb (fun c => ?_) (fun c => ?_)
    · have h0 : (0 : Int) ∈ keysN ops := by simpa using c
      obtain ⟨u0, c1, c2⟩ := hv4 0 h0
      refine w_dput ?_
      walk_at "ws_17"
      refine w_dget ?_
      walk_at "ws_17"
      refine o_dget hf4 h0 ?_
      rw [c1]
      walk_at "ws_17"
      refine k_tup (by simp; decide) fun u H5 n5 => ?_
      have hD5 := n5.get hf4
      walk_at "ws_17"
      refine o_dput hD5 (by omega) ?_
      walk_at "ws_17"
      refine q D _ (((k1.trans k2).trans (k4.trans n5.keep)).putO (o := .lst []) zDH) zDH ⟨fun w => if w = 0 then .ref u else f w, by rw [upd_same, mkD_put, if_pos h0], fun w hw => ?_⟩
      have uD : u ≠ D := fun z => by have := n5.no; rw [z, hf4] at this; cases this
      by_cases z : w = 0
      · subst z
        refine ⟨u, if_pos rfl, ?_⟩
        rw [upd_ne uD, n5.at_]
        rfl
      · obtain ⟨u1, g1, g2⟩ := hv4 w hw
        refine ⟨u1, (if_neg z).trans g1, ?_⟩
        rw [upd_ne (fun y => by rw [y, hf4] at g2; cases g2), n5.get g2]
        simp only [spanT, spanF, z, if_false]
    · have h0 : (0 : Int) ∉ keysN ops := by simpa using c
      walk_at "ws_17"
      refine q D _ ((k1.trans k2).trans k4) zDH ⟨f, hf4, fun w hw => ?_⟩
      obtain ⟨u1, g1, g2⟩ := hv4 w hw
      have z : ¬ w = 0 := fun z => h0 (z ▸ hw)
      exact ⟨u1, g1, by rw [g2]; simp only [spanT, spanF, z, if_false]⟩
theorem w_fromY {D : Ends} {σ : LB.St} {H : Hp} {sp : SpY} {t : TA} (h : t σ H fun vs H1 => sp vs H1 fun r H2 => r = none ∧ D.nx σ H2) : tFromY (tCallY sp t) D σ H := h
theorem w_forY0 {D : Ends} {σ : LB.St} {H : Hp} {sp : SpY} {t : TA} {g : TG} {tb : TS} (h : t σ H fun vs H1 => sp vs H1 fun r H2 => match r with | none => D.nx σ H2 | some x => g x σ H2 fun σ3 H3 => tb { nx := fun _ _ => False, rt := D.rt, bk := D.nx, ct := fun _ _ => False } σ3 H3) : tForY (tCallY sp t) g tb D σ H := h
theorem pure_are_spans_crossed {K : PySem.W.Frag} {vs : List V} {H : Hp} {Q : VK} {E : XK} (h : spCrossed vs H Q E) : t_are_spans_crossed K { nx := fun _ H' => Q .non H', rt := Q } (start ["one", "other", "tolerance"] vs) H := by
  obtain ⟨a, b, f1, f2, l1, l2, tol, rfl, ha, hb, i1, i2, q⟩ := h
  show t_are_spans_crossed K _ [some (.ref a), some (.ref b), some (.int tol)] H
  unfold t_are_spans_crossed
  walk_at "ws_17"
  refine ⟨a, b, f1, f2, l1, l2, tol, rfl, ha, hb, i1, ?_⟩
  walk_at "ws_17"
  refine w_iteb (fun c => ?_) (fun c => ?_)
  · walk_at "ws_17"
    refine ⟨b, a, f2, f1, l2, l1, tol, rfl, hb, ha, i2, ?_⟩
    rw [c, Bool.true_and] at q
    exact q
  · rw [c, Bool.false_and] at q
    exact q
def LcEnd (J : It) (g : TG) (tt : TT) (te : TE) (vs : List Nat) (σ : LB.St) (H : Hp) (Q : VK) : Prop :=
    ∀ D, H D = none → ∃ W : Nat → Nat → Hp → Prop, (∃ m, W 0 m (upd H D (.lst []))) ∧ ∀ i' m H1, W i' m H1 →
      (J.stop i' H1 ∧ Q (.ref D) H1) ∨ (J.go i' H1 ∧ ∃ Nx : Hp → Prop, (∀ H', Nx H' → ∃ m', m' < m ∧ W (i' + 1) m' H') ∧ ∀ x H', J.yld i' H1 x H' → g x (wipe σ vs) H' fun σ2 H2 => wipe σ2 vs = wipe σ vs ∧ tt σ2 H2 fun b H3 =>
        if b = true then te σ2 H3 fun y H4 => ∃ acc, H4 D = some (.lst acc) ∧ acc.length < sizeLine ∧ Nx (upd H4 D (.lst (acc ++ [y]))) else Nx H3)
theorem w_lcT {K : PySem.W.Frag} {tl : TE} {g : TG} {tt : TT} {te : TE} {vs : List Nat} {σ : LB.St} {H : Hp} {Q : VK} (h : tl σ H fun x H1 => ∃ a, x = .ref a ∧ (∃ xs, SqT K H1 a xs) ∧ LcEnd (Itt K a) g tt te vs σ H1 Q) : tLc (iSeq K tl) g tt te vs σ H Q := .inr h
theorem w_lcL {K : PySem.W.Frag} {tl : TE} {g : TG} {tt : TT} {te : TE} {vs : List Nat} {σ : LB.St} {H : Hp} {Q : VK} (h : tl σ H fun x H1 => ∃ a, x = .ref a ∧ (∃ xs, SqL K H1 a xs) ∧ LcEnd (Itl K a) g tt te vs σ H1 Q) : tLc (iSeq K tl) g tt te vs σ H Q := .inl h
theorem w_lcK {s : Nat} {d : Addr} {o : Obj} {kvs : List (Key × V)} {g : TG} {tt : TT} {te : TE} {vs : List Nat} {σ : LB.St} {H : Hp} {Q : VK} (es : σ[s]? = some (some (.ref d))) (ed : H d = some (.frz o (.dK kvs))) (h : LcEnd (Itk d o kvs) g tt te vs σ H Q) : tLc (iKeys (tVar s)) g tt te vs σ H Q :=
  by unfold tLc iKeys; exact w_var es ⟨d, o, rfl, .inl ⟨kvs, ed, h⟩⟩
/-- a list of what passes, out of ints walked over -/
theorem lc_zs {σ : LB.St} {H : Hp} {Q : VK} {J : It} {G : Hp → Prop} {ns : List Int} {i : Nat} {tt : TT} {te : TE} {p : Int → Bool} (w : Walk J ns.length G fun i H x H' => H' = H ∧ ∃ v, ns[i]? = some v ∧ x = V.int v) (few : ns.length ≤ 1000)
    (hG : ∀ H', Keep NoS H H' → G H')
    (ht : ∀ (v : Int) (H2 : Hp) (Qb : Bool → Hp → Prop), v ∈ ns → Keep NoS H H2 → (∀ H3, Keep NoS H2 H3 → Qb (p v) H3) → tt ((σ.set i none).set i (some (.int v))) H2 Qb)
    (he : ∀ (v : Int) (H2 : Hp) (Q2 : VK), v ∈ ns → Q2 (.int v) H2 → te ((σ.set i none).set i (some (.int v))) H2 Q2)
    (q : ∀ (b : Addr) (H' : Hp), Keep NoS H H' → H b = none → H' b = some (.lst ((ns.filter p).map V.int)) → Q (.ref b) H') :
    LcEnd J (gName i) tt te [i] σ H Q := by
  intro D hD
  refine lc_it w (fun n H' => Keep NoS H H' ∧ H' D = some (.lst (((ns.take n).filter p).map V.int))) ⟨Keep.new hD, upd_same⟩ (fun n H' _ h => hG _ h.1) ?_ ?_
  · rintro n x H1 H2 hn ⟨k1, hb⟩ ⟨rfl, v, hv, rfl⟩
    have mem := List.mem_of_getElem? hv
    have et : (ns.take (n + 1)).filter p = (ns.take n).filter p ++ (if p v = true then [v] else []) := by
      rw [List.take_add_one, hv, List.filter_append]
      cases c : p v <;> simp [c]
    refine ⟨by show ((σ.set i none).set i _).set i none = σ.set i none; rw [List.set_set, List.set_set], ht v H2 _ mem k1 fun H3 k3 => ?_⟩
    have hb3 := k3.all _ _ id hb
    refine w_iteb (fun c => ?_) (fun c => ?_)
    · refine he v H3 _ mem ⟨_, hb3, ?_, (k1.trans k3).put0 hD hb3, ?_⟩
      · rw [List.length_map]
        have := List.length_filter_le p (ns.take n)
        rw [List.length_take] at this
        exact Nat.lt_of_le_of_lt (by omega : _ ≤ 1000) (by decide)
      · rw [et, if_pos c, List.map_append]
        exact upd_same
    · refine ⟨k1.trans k3, ?_⟩
      rw [et, c]
      simpa using hb3
  · rintro H1 ⟨k1, hb⟩
    rw [List.take_length] at hb
    exact q D H1 k1 hD hb
theorem walk_zs_tup {K : PySem.W.Frag} {a : Addr} {ns : List Int} : Walk (Itt K a) ns.length (fun H => H a = some (.tup (ns.map V.int))) fun i H x H' => H' = H ∧ ∃ v, ns[i]? = some v ∧ x = V.int v := by
  have w := walk_tup (K := K) (a := a) (xs := ns.map V.int)
  rw [List.length_map] at w
  refine w.mono (fun H h => .inl (.inl h)) fun i H x H' _ _ ⟨e, hx⟩ => ⟨e, ?_⟩
  rw [List.getElem?_map] at hx
  obtain ⟨v, hv, rfl⟩ := Option.map_eq_some_iff.mp hx
  exact ⟨v, hv, rfl⟩
theorem walk_zs_keys {d : Addr} {o : Obj} {ns : List Int} {f : Int → V} : Walk (Itk d o (mkD ns f)) ns.length (fun H => H d = some (.frz o (.dK (mkD ns f)))) fun i H x H' => H' = H ∧ ∃ v, ns[i]? = some v ∧ x = V.int v := by
  have w := walk_keys (d := d) (o := o) (kvs := mkD ns f)
  rw [mkD_len] at w
  refine w.mono (fun H h => h) fun i H x H' _ _ ⟨e, k, y, hx, ex⟩ => ⟨e, ?_⟩
  obtain ⟨v, hv, rfl, _⟩ := mkD_at hx
  exact ⟨v, hv, ex⟩
theorem kn_all {ops : List Op} {tol : Int} (fi : Fine ops tol) {v : Int} (hv : v ∈ vals ops) : v = 0 ∨ v ∈ wr ops := by
  obtain ⟨i, o, e, rfl⟩ := vals_at.mp hv
  exact fi.kn o (List.mem_of_getElem? e)
theorem no_cross {ops : List Op} {tol : Int} (fi : Fine ops tol) {u v : Int} (hu : u ∈ vals ops) (hv : v ∈ vals ops) (n : u ≠ v) : (befV ops tol u v && befV ops tol v u) = false := by
  cases c : (befV ops tol u v && befV ops tol v u) with
  | false => rfl
  | true =>
    rw [Bool.and_eq_true] at c
    exact absurd ⟨(bef_is fi.ok hu hv n fi.t1).mp c.1, (bef_is fi.ok hv hu (Ne.symm n) fi.t1).mp c.2⟩ (fi.nc u hu v hv n)
theorem filter_true_z {ns : List Int} : ns.filter (fun _ => true) = ns := by simp
theorem cut_after {xs : List V} {n : Nat} : cutV xs (some ((n : Int) + 1)) none = xs.drop (n + 1) := by
  unfold cutV
  rw [show ((n : Int) + 1) = ((n + 1 : Nat) : Int) by omega, HT.sIx_nat, HT.sIx_none]
  by_cases z : n + 1 ≤ xs.length
  · rw [Nat.min_eq_left z]
    exact List.take_of_length_le (by rw [List.length_drop]; exact Nat.le_refl _)
  · rw [Nat.min_eq_right (by omega), Nat.sub_self, List.take_zero, List.drop_of_length_le (by omega)]
theorem asc_at {ns : List Int} (h : ns.Pairwise (· < ·)) {i j : Nat} {a b : Int} (ha : ns[i]? = some a) (hb : ns[j]? = some b) (l : i < j) : a < b := by
  obtain ⟨i1, rfl⟩ := List.getElem?_eq_some_iff.mp ha
  obtain ⟨j1, rfl⟩ := List.getElem?_eq_some_iff.mp hb
  exact List.pairwise_iff_getElem.mp h i j i1 j1 l
theorem pure__pairs {K : PySem.W.Frag} {vs : List V} {H : Hp} {R : Option V → Hp → Prop} (h : spPairs0 vs H R) : t__pairs_before_each_other K (fun v H' => R (some v) H') { nx := fun _ H' => R none H', rt := fun v H' => v = .non ∧ R none H' } (start ["log", "tolerance", "writes", "spans", "values", "value", "at", "one", "other"] vs) H := by
  obtain ⟨t, ops, tol, rfl, lg, few, fi, q⟩ := h
  show t__pairs_before_each_other K _ _ [some (.ref t), some (.int tol), none, none, none, none, none, none, none] H
  unfold t__pairs_before_each_other
  walk_at "ws_17"
  refine ⟨t, ops, rfl, lg, few, fi.nd, fun w H1 k1 _ hw => ?_⟩
  walk_at "ws_17"
  refine ⟨t, ops, rfl, lg.keep k1, few, fun sp H2 k2 _ hsp0 => ?_⟩
  have hsp := hsp0.at
  walk_at "ws_17"
  refine w_lcT ?_
  refine w_call (w_cons (w_var (by with_unfolding_all rfl) (w_nil ?_)))
  refine ⟨t, ops, rfl, (lg.keep k1).keep k2, few, fun p H3 k3 _ hp => ⟨p, rfl, ⟨_, .inl (.inl hp)⟩, ?_⟩⟩
  have vl : (vals ops).length ≤ 200 := Nat.le_trans (vals_len ops) few
  refine lc_zs (p := fun _ => true) walk_zs_tup (by omega) (fun H' k => k.all _ _ id hp) (fun v H4 Qb hv k4 qb => ?_) (fun v H4 Q2 hv hq => ?_) fun L H4 k4 _ hL => ?_
  · show tOr _ _ [some (.ref t), some (.int tol), some (.ref w), some (.ref sp), none, some (.int v), none, none, none] H4 Qb
    walk_at "ws_17"
    have e0 : decide (V.int v = V.int 0) = decide (v = 0) := by simp
    rw [e0]
    refine w_ite (fun c => ?_) (fun c => ?_)
    · exact qb H4 (Keep.refl _ _)
    · refine w_din ?_
      walk_at "ws_17"
      refine o_din (((k2.trans k3).trans k4).all _ _ id hw) ?_
      have : v ∈ wr ops := (kn_all fi hv).resolve_left c
      refine ⟨_, rfl, ?_⟩
      rw [decide_eq_true this]
      exact qb H4 (Keep.refl _ _)
  · show (tVar 5) [some (.ref t), some (.int tol), some (.ref w), some (.ref sp), none, some (.int v), none, none, none] H4 Q2
    exact w_var (by with_unfolding_all rfl) hq
  rw [filter_true_z] at hL
  have hsp4 : SpansAt H4 sp ops := hsp.keep (k3.trans k4) id
  have k04 := (k1.trans k2).trans (k3.trans k4)
  walk_at "ws_17"
  refine .inl (w_cons (w_var (by with_unfolding_all rfl) (w_nil ⟨L, (vals ops).map V.int, rfl, .inl (.inl hL), ?_⟩)))
  refine for_it walk_enum (fun n σ H' => (∃ x5 x6 x7 x8, σ = [some (.ref t), some (.int tol), some (.ref w), some (.ref sp), some (.ref L), x5, x6, x7, x8]) ∧ Keep NoS H4 H') ⟨⟨_, _, _, _, rfl⟩, Keep.refl _ _⟩ (fun n σ H' _ h => .inl (.inl (h.2.all _ _ id hL))) ?_ ?_
  · rintro n x σ H5 H6 hn ⟨⟨x5, x6, x7, x8, rfl⟩, k5⟩ ⟨T, x, y, rfl, hT, rfl, e1, e2⟩
    cases e1
    have e2 : ((vals ops).map V.int)[n]? = some y := e2
    rw [List.getElem?_map] at e2
    obtain ⟨u, hu, rfl⟩ := Option.map_eq_some_iff.mp e2
    have nw : New H5 (upd H5 T (.tup [.int (n : Nat), .int u])) T (.tup [.int (n : Nat), .int u]) := .mk' hT
    generalize upd H5 T (.tup [V.int (n : Nat), V.int u]) = H6 at nw
    have k6 := k5.trans nw.keep
    refine w_gt2 nw.at_ ?_
    unfold t__pairs_before_each_other_2
    walk_at "ws_17"
    refine w_forSl ?_
    walk_at "ws_17"
    refine o_sll (k6.all _ _ id hL) fun p2 H7 n7 => ?_
    rw [cut_after] at n7
    have k7 := k6.trans n7.keep
    refine k_Fl n7.at_ (fun m σ H' => (∃ x8, σ = [some (.ref t), some (.int tol), some (.ref w), some (.ref sp), some (.ref L), x5, some (.int (n : Nat)), some (.int u), x8]) ∧ Keep NoS H7 H') ⟨⟨_, rfl⟩, Keep.refl _ _⟩ (fun m σ H' _ h => h.2.all _ _ id n7.at_) ?_ ?_
    · rintro m y σ H8 hm ⟨⟨x8, rfl⟩, k8⟩
      rw [← List.map_drop, List.getElem?_map] at hm
      obtain ⟨v, hv, rfl⟩ := Option.map_eq_some_iff.mp hm
      rw [List.getElem?_drop] at hv
      have mu := List.mem_of_getElem? hu
      have mv := List.mem_of_getElem? hv
      have ne : u ≠ v := fun e => by
        have := asc_at (vals_asc ops) hu hv (by omega)
        omega
      have hsp8 := hsp4.keep (k7.trans k8) id
      obtain ⟨t1, g1, h1⟩ := hsp8.get mu
      obtain ⟨t2, g2, h2⟩ := hsp8.get mv
      walk_at "ws_17"
      unfold t__pairs_before_each_other_1
      walk_at "ws_17"
      refine w_dget ?_
      walk_at "ws_17"
      refine o_dgetS g1 ?_
      walk_at "ws_17"
      refine w_dget ?_
      walk_at "ws_17"
      refine o_dgetS g2 ?_
      walk_at "ws_17"
      refine ⟨t1, t2, _, _, _, _, tol, rfl, h1, h2, spanF_is, spanF_is, ?_⟩
      refine ⟨_, rfl, ?_⟩
      have nc := no_cross fi mu mv ne
      unfold befV at nc
      rw [nc]
      exact ⟨⟨_, rfl⟩, k8⟩
    · rintro σ H8 ⟨⟨x8, rfl⟩, k8⟩
      exact ⟨⟨_, _, _, _, rfl⟩, k7.trans k8⟩
  · rintro σ H5 ⟨⟨x5, x6, x7, x8, rfl⟩, k5⟩
    exact q H5 (k04.trans k5)
theorem pure_faults_within_values {K : PySem.W.Frag} {vs : List V} {H : Hp} {R : Option V → Hp → Prop} (h : spWithin0 vs H R) : t_faults_within_values K (fun v H' => R (some v) H') { nx := fun _ H' => R none H', rt := fun v H' => v = .non ∧ R none H' } (start ["log", "tolerance", "writes", "read", "operation"] vs) H := by
  obtain ⟨t, ops, tol, rfl, lg, few, fi, q⟩ := h
  show t_faults_within_values K _ _ [some (.ref t), some (.int tol), none, none, none] H
  unfold t_faults_within_values
  walk_at "ws_17"
  refine ⟨t, ops, rfl, lg, few, fi.nd, fun w H1 k1 _ hw => ?_⟩
  walk_at "ws_17"
  obtain ⟨xs, hx, hl, hi⟩ := id (lg.keep k1)
  refine w_forEnT (xs := xs) (by with_unfolding_all rfl) (fun n σ H' => (∃ x3 x4, σ = [some (.ref t), some (.int tol), some (.ref w), x3, x4]) ∧ Keep NoS H1 H') ⟨⟨_, _, rfl⟩, Keep.refl _ _⟩ (fun n σ H' _ h => h.2.tup _ _ hx) ?_ ?_
  · rintro n x σ H2 H3 T hn ⟨⟨x3, x4, rfl⟩, k2⟩ nw
    have ln : n < ops.length := by
      rw [← hl]
      by_cases z : n < xs.length
      · exact z
      · rw [List.getElem?_eq_none (by omega)] at hn; cases hn
    have ho : ops[n]? = some ops[n] := List.getElem?_eq_getElem ln
    obtain ⟨u, e1, e2⟩ := hi n _ ho
    rw [hn] at e1
    cases e1
    refine w_gt2 nw.at_ ?_
    have k3 := k2.trans nw.keep
    have hu := k3.tup _ _ e2
    have hw3 := k3.all _ _ id hw
    unfold t_faults_within_values_1
    walk_at "ws_17"
    have e0 : (!decide (V.int ops[n].v = V.int 0)) = !decide (ops[n].v = 0) := by simp
    rw [e0]
    refine w_iteb (fun c => ?_) (fun c => ?_)
    · have nz : ¬ ops[n].v = 0 := by simpa using c
      have inw := (fi.kn _ (List.mem_of_getElem? ho)).resolve_left nz
      refine w_dni ?_
      walk_at "ws_17"
      refine o_dni hw3 ?_
      refine ⟨_, rfl, ?_⟩
      rw [decide_eq_true inw]
      refine w_iteF rfl ?_
      walk_at "ws_17"
      exact ⟨⟨_, _, rfl⟩, k3⟩
    · refine w_iteF rfl ?_
      walk_at "ws_17"
      exact ⟨⟨_, _, rfl⟩, k3⟩
  · rintro σ H2 ⟨⟨x3, x4, rfl⟩, k2⟩
    walk_at "ws_17"
    refine w_forEnT (xs := xs) (by with_unfolding_all rfl) (fun n σ H' => (∃ x3 x4, σ = [some (.ref t), some (.int tol), some (.ref w), x3, x4]) ∧ Keep NoS H1 H') ⟨⟨_, _, rfl⟩, k2⟩ (fun n σ H' _ h => h.2.tup _ _ hx) ?_ ?_
    · rintro n x σ H2 H3 T hn ⟨⟨x3, x4, rfl⟩, k2⟩ nw
      have ln : n < ops.length := by
        rw [← hl]
        by_cases z : n < xs.length
        · exact z
        · rw [List.getElem?_eq_none (by omega)] at hn; cases hn
      have ho : ops[n]? = some ops[n] := List.getElem?_eq_getElem ln
      obtain ⟨u, e1, e2⟩ := hi n _ ho
      rw [hn] at e1
      cases e1
      refine w_gt2 nw.at_ ?_
      have k3 := k2.trans nw.keep
      have hu := k3.tup _ _ e2
      have hw3 := k3.all _ _ id hw
      unfold t_faults_within_values_2
      walk_at "ws_17"
      refine w_din ?_
      walk_at "ws_17"
      refine o_din hw3 ?_
      refine ⟨_, rfl, ?_⟩
      refine w_ite (fun c => ?_) (fun c => ?_)
      · walk_at "ws_17"
        refine w_dget ?_
        walk_at "ws_17"
        refine o_dget hw3 c ?_
        obtain ⟨o, ho1, ho2⟩ := List.mem_map.mp c
        obtain ⟨ho3, ho4⟩ := List.mem_filter.mp ho1
        obtain ⟨j, lj, ej⟩ := List.mem_iff_getElem.mp ho3
        have hj : ops[j]? = some o := by rw [List.getElem?_eq_getElem lj, ej]
        have ix : wrIx ops ops[n].v = some j := by rw [← ho2]; exact wrIx_is fi.nd hj ho4
        rw [ix]
        refine ⟨t, ops, tol, n, j, by simp [optN], (lg.keep k1).keep k3, ln, lj, fun H4 k4 => ?_⟩
        refine ⟨_, rfl, ?_⟩
        have no : sureB ops tol n j = false := by
          unfold sureB
          rw [ho, hj]
          exact decide_eq_false (fi.ea _ (List.mem_of_getElem? ho) o ho3 ho4 ho2)
        rw [no]
        refine w_iteF rfl ?_
        walk_at "ws_17"
        exact ⟨⟨_, _, rfl⟩, k3.trans k4⟩
      · refine w_iteF rfl ?_
        walk_at "ws_17"
        exact ⟨⟨_, _, rfl⟩, k3⟩
    · rintro σ H2 ⟨⟨x3, x4, rfl⟩, k2⟩
      exact q H2 (k1.trans k2)
theorem pure_faults {K : PySem.W.Frag} {vs : List V} {H : Hp} {R : Option V → Hp → Prop} (h : spFaults0 vs H R) : t_faults K (fun v H' => R (some v) H') { nx := fun _ H' => R none H', rt := fun v H' => v = .non ∧ R none H' } (start ["log", "tolerance", "ended", "begun", "one", "other"] vs) H := by
  obtain ⟨t, ops, tol, rfl, lg, few, fi, q⟩ := h
  show t_faults K _ _ [some (.ref t), some (.int tol), none, none, none, none] H
  unfold t_faults
  walk_at "ws_17"
  refine w_fromY ?_
  walk_at "ws_17"
  refine ⟨t, ops, tol, rfl, lg, few, fi, fun H1 k1 => ⟨rfl, ?_⟩⟩
  walk_at "ws_17"
  refine ⟨t, ops, rfl, lg.keep k1, few, fun d1 H2 k2 _ e2 => ?_⟩
  walk_at "ws_17"
  refine ⟨t, ops, rfl, (lg.keep k1).keep k2, few, fun d2 H3 k3 _ e3 => ?_⟩
  walk_at "ws_17"
  refine w_forY0 ?_
  walk_at "ws_17"
  refine ⟨t, ops, tol, rfl, ((lg.keep k1).keep k2).keep k3, few, fi, fun H4 k4 => ?_⟩
  exact q H4 (((k1.trans k2).trans k3).trans k4)
theorem pure_first_fault {K : PySem.W.Frag} {vs : List V} {H : Hp} {Q : VK} {E : XK} (h : spFirst0 vs H Q E) : t_first_fault K { nx := fun _ H' => Q .non H', rt := Q } (start ["log", "tolerance", "fault"] vs) H := by
  obtain ⟨t, ops, tol, rfl, lg, few, fi, q⟩ := h
  show t_first_fault K _ [some (.ref t), some (.int tol), none] H
  unfold t_first_fault
  walk_at "ws_17"
  refine w_forY0 ?_
  walk_at "ws_17"
  refine ⟨t, ops, tol, rfl, lg, few, fi, fun H4 k4 => ?_⟩
  show (tRet (tC V.non)) _ _ H4
  walk_at "ws_17"
  exact q H4 k4
theorem o_notNN {H : Hp} {Q : VK} (h : Q (.bl false) H) : rNotA .non .non H Q := .inl ⟨rfl, h⟩
theorem pure_demand_explained {K : PySem.W.Frag} {vs : List V} {H : Hp} {Q : VK} {E : XK} (h : spDemandE vs H Q E) : t_demand_explained K { nx := fun _ H' => Q .non H', rt := Q } (start ["log", "tolerance", "fault"] vs) H := by
  obtain ⟨t, ops, tol, rfl, lg, few, fi, q⟩ := h
  show t_demand_explained K _ [some (.ref t), some (.int tol), none] H
  unfold t_demand_explained
  walk_at "ws_17"
  refine ⟨t, ops, tol, rfl, lg, few, fi, fun H4 k4 => ?_⟩
  walk_at "ws_17"
  refine o_notNN ?_
  refine ⟨_, rfl, ?_⟩
  refine w_iteF rfl ?_
  walk_at "ws_17"
  exact q H4 k4
theorem pure__is_ahead {K : PySem.W.Frag} {vs : List V} {H : Hp} {Q : VK} {E : XK} (h : spIsAhead vs H Q E) : t__is_ahead K { nx := fun _ H' => Q .non H', rt := Q } (start ["spans", "tolerance", "one", "other"] vs) H := by
  obtain ⟨d, ops, tol, u, v, rfl, sp, hu, hv, q⟩ := h
  show t__is_ahead K _ [some (.ref d), some (.int tol), some (.int u), some (.int v)] H
  unfold t__is_ahead
  walk_at "ws_17"
  have e0 : (!decide (V.int u = V.int v)) = !decide (u = v) := by simp
  rw [e0]
  refine w_iteb (fun c => ?_) (fun c => ?_)
  · have ne : ¬ u = v := by simpa using c
    obtain ⟨t1, g1, h1⟩ := sp.get hu
    obtain ⟨t2, g2, h2⟩ := sp.get hv
    walk_at "ws_17"
    refine w_dget ?_
    walk_at "ws_17"
    refine o_dgetS g1 ?_
    walk_at "ws_17"
    refine w_dget ?_
    walk_at "ws_17"
    refine o_dgetS g2 ?_
    walk_at "ws_17"
    refine ⟨t1, t2, _, _, _, _, tol, rfl, h1, h2, spanF_is, ?_⟩
    unfold isBef at q
    rw [if_neg ne] at q
    exact q
  · have e : u = v := by simpa using c
    unfold isBef at q
    rw [if_pos e] at q
    exact q
theorem nodup_take {ns : List Int} (nd : ns.Nodup) {n : Nat} {v : Int} (ev : ns[n]? = some v) : v ∉ ns.take n := fun z => by
  obtain ⟨m, hm, em⟩ := List.mem_iff_getElem.mp z
  rw [List.length_take] at hm
  rw [List.getElem_take] at em
  obtain ⟨hn', en⟩ := List.getElem?_eq_some_iff.mp ev
  have := (List.getElem_inj nd).mp (em.trans en.symm)
  omega
theorem take_z {ns : List Int} {n : Nat} {v : Int} (h : ns[n]? = some v) : ns.take (n + 1) = ns.take n ++ [v] := by
  rw [List.take_add_one, h]
  rfl
theorem pure__values_ahead {K : PySem.W.Frag} {vs : List V} {H : Hp} {Q : VK} {E : XK} (h : spAheadV vs H Q E) : t__values_ahead K { nx := fun _ H' => Q .non H', rt := Q } (start ["log", "tolerance", "spans", "value", "other"] vs) H := by
  obtain ⟨t, ops, tol, rfl, lg, few, q⟩ := h
  show t__values_ahead K _ [some (.ref t), some (.int tol), none, none, none] H
  unfold t__values_ahead
  walk_at "ws_17"
  refine ⟨t, ops, rfl, lg, few, fun d1 H2 k2 z1 hsp => ?_⟩
  walk_at "ws_17"
  have kk := keysN_facts ops
  have kl : (keysN ops).length ≤ 1000 := by
    have := kk.2.2
    omega
  obtain ⟨f, ed1, hf⟩ := hsp
  refine ⟨d1, _, ed1, trivial, fun od => ?_⟩
  have kL : Keep (At d1) H2 (upd H2 d1 (.frz od (.dK (mkD (keysN ops) f)))) := Keep.lock ed1
  refine ⟨.ref d1, by with_unfolding_all rfl, d1, od, rfl, .inl ⟨_, upd_same, fun D hD => ?_⟩⟩
  have zD : H2 D = none := by
    by_cases z : D = d1
    · rw [z, upd_same] at hD; cases hD
    · rwa [upd_ne z] at hD
  have nD : D ≠ d1 := fun z => by rw [z, upd_same] at hD; cases hD
  have spK : ∀ H', Keep (At d1) H2 H' → H' d1 = some (.frz od (.dK (mkD (keysN ops) f))) → SpansAt H' d1 ops := fun H' k e => by
    refine ⟨f, .inr ⟨od, e⟩, fun v hv => ?_⟩
    obtain ⟨u, e1, e2⟩ := hf v hv
    exact ⟨u, e1, k.tup _ _ e2⟩
  refine dc_it walk_keys (fun n H' => Keep (At d1) H2 H' ∧ H' d1 = some (.frz od (.dK (mkD (keysN ops) f))) ∧ ∃ g : Int → V, H' D = some (.dK (mkD ((keysN ops).take n) g)) ∧ ∀ v ∈ (keysN ops).take n, ∃ u, g v = .ref u ∧ u ≠ D ∧ H' u = some (.lst ((befL ops tol v).map V.int)))
    ⟨kL.putO (o := .lst []) zD, by rw [upd_ne (Ne.symm nD)]; exact upd_same, fun _ => .non, upd_same, fun v hv => by simp at hv⟩ (fun n H' _ h => h.2.1) ?_ ?_
  · rintro n x H3 H4 hn ⟨k3, f1, g, hg, hv⟩ ⟨rfl, k, y, hk, rfl⟩
    obtain ⟨v, ev, rfl, rfl⟩ := mkD_at hk
    refine ⟨rfl, ?_⟩
    simp only [tYes, if_true]
    walk_at "ws_17"
    have hvk : v ∈ keysN ops := List.mem_of_getElem? ev
    refine w_lcK (by with_unfolding_all rfl) f1 ?_
    refine lc_zs (p := fun u => isBef ops tol u v) walk_zs_keys kl (fun H' k => k.all _ _ id f1) (fun u H5 Qb hu k5 qb => ?_) (fun u H5 Q2 hu hq => ?_) fun L H5 k5 zL hL => ?_
    · show tB _ [some (.ref t), some (.int tol), some (.ref d1), some (.int v), some (.int u)] H5 Qb
      walk_at "ws_17"
      have h5 := k5.all _ _ id f1
      have k35 : Keep (At d1) H2 H5 := k3.trans (k5.mono fun _ z => z.elim)
      refine ⟨d1, ops, tol, u, v, rfl, spK H5 k35 h5, keysN_vals.mp hu, keysN_vals.mp hvk, ?_⟩
      exact ⟨_, rfl, qb H5 (Keep.refl _ _)⟩
    · show (tVar 4) [some (.ref t), some (.int tol), some (.ref d1), some (.int v), some (.int u)] H5 Q2
      exact w_var (by with_unfolding_all rfl) hq
    have h5 := k5.all _ _ id f1
    have hg5 := k5.all _ _ id hg
    have k35 : Keep (At d1) H2 H5 := k3.trans (k5.mono fun _ z => z.elim)
    have LD : L ≠ D := fun z => by rw [z, hg] at zL; cases zL
    refine ⟨_, .inl v, rfl, hg5, ?_, k35.putO (o := .lst []) zD, by rw [upd_ne (Ne.symm nD)]; exact h5, fun u => if u = v then .ref L else g u, ?_, ?_⟩
    · rw [mkD_len, List.length_take]
      exact Nat.lt_of_le_of_lt (by omega : _ ≤ 1000) (by decide)
    · rw [upd_same, mkD_put]
      have nin : v ∉ (keysN ops).take n := nodup_take kk.2.1 ev
      rw [if_neg nin, take_z ev]
    · intro u hu
      rw [take_z ev] at hu
      by_cases z : u = v
      · subst z
        exact ⟨L, if_pos rfl, LD, by rw [upd_ne LD]; exact hL⟩
      · have hu : u ∈ (keysN ops).take n := by
          rcases List.mem_append.mp hu with h | h
          · exact h
          · exact absurd (List.mem_singleton.mp h) z
        obtain ⟨w, w1, w2, w3⟩ := hv u hu
        exact ⟨w, by show (if u = v then _ else _) = _; rw [if_neg z]; exact w1, w2, by rw [upd_ne w2]; exact k5.all _ _ id w3⟩
  · rintro H3 ⟨k3, f1, g, hg, hv⟩
    rw [mkD_len, List.take_length] at hg hv
    refine ⟨f1, ?_⟩
    refine q D _ (k2.trans (k3.unlock ed1)) ⟨g, .inl (by rw [upd_ne nD]; exact hg), fun v hvv => ?_⟩
    obtain ⟨u, e1, e2, e3⟩ := hv v hvv
    have ud : u ≠ d1 := fun z => by rw [z, f1] at e3; cases e3
    exact ⟨u, e1, by rw [upd_ne ud]; exact e3⟩
theorem w_sadd {w : World} {to : TE} {t : TA} {σ : LB.St} {H : Hp} {Q : VK} (h : to σ H fun x H1 => (∃ a S n, x = V.ref a ∧ H1 a = some (SetO w a S n)) ∧ t σ H1 fun xs H2 => rSAdd w x xs H2 Q) : tSAdd w to t σ H Q := h
def cnt (S : Int → Bool) (vs : List Int) : Nat := (vs.filter S).length
theorem cnt_le {S : Int → Bool} {vs : List Int} : cnt S vs ≤ vs.length := List.length_filter_le _ _
theorem cnt_same {S : Int → Bool} {k : Int} {vs : List Int} (h : k ∉ vs ∨ S k = true) : cnt (fun j => S j || decide (j = k)) vs = cnt S vs := by
  unfold cnt
  congr 1
  refine List.filter_congr fun j hj => ?_
  by_cases e : j = k
  · subst e
    rcases h with h | h
    · exact absurd hj h
    · simp [h]
  · simp [e]
theorem cnt_more {S : Int → Bool} {k : Int} : ∀ {vs : List Int}, vs.Nodup → k ∈ vs → S k = false → cnt (fun j => S j || decide (j = k)) vs = cnt S vs + 1
  | v :: vs, nd, hk, hS => by
    obtain ⟨n1, n2⟩ := List.nodup_cons.mp nd
    by_cases e : v = k
    · subst e
      have h1 := cnt_same (S := S) (k := v) (vs := vs) (.inl n1)
      unfold cnt at h1 ⊢
      rw [List.filter_cons, List.filter_cons, hS]
      simp only [Bool.false_or, decide_true, if_true, Bool.false_eq_true, if_false, List.length_cons]
      rw [h1]
    · have hk : k ∈ vs := by
        rcases List.mem_cons.mp hk with h | h
        · exact absurd h.symm e
        · exact h
      have h1 := cnt_more (S := S) (k := k) n2 hk hS
      unfold cnt at h1 ⊢
      rw [List.filter_cons, List.filter_cons]
      simp only [e, decide_false, Bool.or_false]
      split
      · simp only [List.length_cons]; omega
      · exact h1
theorem cnt_add {S : Int → Bool} {k : Int} {vs : List Int} (nd : vs.Nodup) (hk : k ∈ vs) : (if S k = true then cnt S vs else cnt S vs + 1) = cnt (fun j => S j || decide (j = k)) vs := by
  by_cases c : S k = true
  · rw [if_pos c, cnt_same (.inr c)]
  · rw [if_neg c, cnt_more nd hk (by simpa using c)]
theorem befL_mem {ops : List Op} {tol u v : Int} : u ∈ befL ops tol v ↔ u ∈ vals ops ∧ isBef ops tol u v = true := by
  unfold befL
  rw [List.mem_filter, keysN_vals]
theorem befL_len {ops : List Op} {tol v : Int} : (befL ops tol v).length ≤ ops.length := Nat.le_trans (List.length_filter_le _ _) (keysN_facts ops).2.2
/-- what the set holds so far -/
structure SoFar (w : World) (ops : List Op) (tol v : Int) (H0 : Hp) (F : Addr) (H' : Hp) (S : Int → Bool) : Prop where
  keep : Keep NoS H0 H'
  at_ : H' F = some (SetO w F S (cnt S (vals ops)))
  only : ∀ j, S j = true → j ∈ vals ops ∧ twoB ops tol j v = true
theorem two_of {ops : List Op} {tol j b v : Int} (hb : b ∈ vals ops) (h1 : isBef ops tol j b = true) (h2 : isBef ops tol b v = true) : twoB ops tol j v = true := by
  unfold twoB
  rw [Bool.or_eq_true]
  exact .inr (List.any_eq_true.mpr ⟨b, hb, by rw [h1, h2]; rfl⟩)
theorem SoFar.add {w : World} {ops : List Op} {tol v k : Int} {H0 H' : Hp} {F : Addr} {S : Int → Bool} (h : SoFar w ops tol v H0 F H' S) (z : H0 F = none) (hk : k ∈ vals ops) (ht : twoB ops tol k v = true) :
    SoFar w ops tol v H0 F (upd H' F (SetO w F (fun j => S j || decide (j = k)) (if S k = true then cnt S (vals ops) else cnt S (vals ops) + 1))) (fun j => S j || decide (j = k)) := by
  have nd : (vals ops).Nodup := (vals_asc ops).imp fun h => by omega
  refine ⟨h.keep.putO (o := .lst []) z, ?_, fun j hj => ?_⟩
  · rw [upd_same, cnt_add nd hk]
  · rw [Bool.or_eq_true] at hj
    rcases hj with hj | hj
    · exact h.only j hj
    · rw [of_decide_eq_true hj]
      exact ⟨hk, ht⟩
theorem pure__within_two_steps {K : PySem.W.Frag} {w : World} {vs : List V} {H : Hp} {Q : VK} {E : XK} (h : spTwo vs H Q E) : t__within_two_steps K w { nx := fun _ H' => Q .non H', rt := Q } (start ["table", "value", "found", "between", "other"] vs) H := by
  obtain ⟨d, ops, tol, v, rfl, ta, few, hv, q⟩ := h
  show t__within_two_steps K w _ [some (.ref d), some (.int v), none, none, none] H
  unfold t__within_two_steps
  walk_at "ws_17"
  refine ⟨rfl, fun F zF => ?_⟩
  walk_at "ws_17"
  have nd : (vals ops).Nodup := (vals_asc ops).imp fun h => by omega
  have vl : (vals ops).length ≤ 200 := Nat.le_trans (vals_len ops) few
  have c0 : cnt (fun _ => false) (vals ops) = 0 := by unfold cnt; simp
  generalize hH1 : upd H F (SetO w F (fun _ => false) 0) = H1
  have s1 : SoFar w ops tol v H F H1 (fun _ => false) := by
    subst hH1
    exact ⟨Keep.new zF, by rw [upd_same, c0], fun j hj => by cases hj⟩
  obtain ⟨f, hr, hf⟩ := ta
  have gd : ∀ u ∈ vals ops, ∃ l, (∀ H', Keep NoS H H' → DGet H' d (.int u) (some (.ref l))) ∧ H l = some (.lst ((befL ops tol u).map V.int)) := fun u hu => by
    have hk := keysN_vals.mpr hu
    obtain ⟨l, e1, e2⟩ := hf u hk
    refine ⟨l, fun H' k => .inl ⟨mkD (keysN ops) f, .inl u, ?_, rfl, by rw [mkD_val, if_pos hk, e1]⟩, e2⟩
    rcases hr with hr | ⟨o, hr⟩
    · exact .inl (k.all _ _ id hr)
    · exact .inr ⟨o, k.all _ _ id hr⟩
  have sb : scanBound = 4096 := rfl
  refine w_forSl ?_
  refine w_dget ?_
  walk_at "ws_17"
  obtain ⟨l, g1, hl⟩ := gd v hv
  refine o_dgetS (g1 _ s1.keep) ?_
  refine k_Fl (s1.keep.all _ _ id hl) (fun n σ H' => (∃ x3 x4, σ = [some (.ref d), some (.int v), some (.ref F), x3, x4]) ∧ ∃ S, SoFar w ops tol v H F H' S ∧ ∀ b ∈ (befL ops tol v).take n, S b = true ∧ ∀ j ∈ befL ops tol b, S j = true) ⟨⟨_, _, rfl⟩, _, s1, fun b hb => by simp at hb⟩ (fun n σ H' _ h => by
    obtain ⟨_, S, sf, _⟩ := h
    exact sf.keep.all _ _ id hl) ?_ ?_
  · rintro n x σ H2 hn ⟨⟨x3, x4, rfl⟩, S, sf, all⟩
    rw [List.getElem?_map] at hn
    obtain ⟨b, eb, rfl⟩ := Option.map_eq_some_iff.mp hn
    obtain ⟨hb, bv⟩ := befL_mem.mp (List.mem_of_getElem? eb)
    walk_at "ws_17"
    unfold t__within_two_steps_2
    walk_at "ws_17"
    refine w_sadd ?_
    walk_at "ws_17"
    refine ⟨⟨F, _, _, rfl, sf.at_⟩, ?_⟩
    walk_at "ws_17"
    have cl := cnt_le (S := S) (vs := vals ops)
    refine ⟨F, b, S, _, rfl, rfl, sf.at_, by omega, ?_⟩
    have sf3 := sf.add zF hb (by unfold twoB; rw [bv]; rfl)
    generalize upd H2 F _ = H3 at sf3
    walk_at "ws_17"
    refine w_forSl ?_
    refine w_dget ?_
    walk_at "ws_17"
    obtain ⟨lb, g2, hlb⟩ := gd b hb
    refine o_dgetS (g2 _ sf3.keep) ?_
    refine k_Fl (sf3.keep.all _ _ id hlb) (fun m σ H' => (∃ x4, σ = [some (.ref d), some (.int v), some (.ref F), some (.int b), x4]) ∧ ∃ S', SoFar w ops tol v H F H' S' ∧ (∀ j, S j = true → S' j = true) ∧ S' b = true ∧ ∀ j ∈ (befL ops tol b).take m, S' j = true) ⟨⟨_, rfl⟩, _, sf3, fun j hj => by simp [hj], by simp, fun j hj => by simp at hj⟩ (fun n σ H' _ h => by
      obtain ⟨_, S', sf', _⟩ := h
      exact sf'.keep.all _ _ id hlb) ?_ ?_
    · rintro m y σ H4 hm ⟨⟨x4, rfl⟩, S', sf', mono, Sb, all'⟩
      rw [List.getElem?_map] at hm
      obtain ⟨j, ej, rfl⟩ := Option.map_eq_some_iff.mp hm
      obtain ⟨hj, jb⟩ := befL_mem.mp (List.mem_of_getElem? ej)
      walk_at "ws_17"
      unfold t__within_two_steps_1
      walk_at "ws_17"
      refine w_sadd ?_
      walk_at "ws_17"
      refine ⟨⟨F, _, _, rfl, sf'.at_⟩, ?_⟩
      walk_at "ws_17"
      have cl' := cnt_le (S := S') (vs := vals ops)
      refine ⟨F, j, S', _, rfl, rfl, sf'.at_, by omega, ?_⟩
      have sf4 := sf'.add zF hj (two_of hb jb bv)
      refine ⟨⟨_, rfl⟩, _, sf4, fun i hi => by simp [mono i hi], by simp [Sb], fun i hi => ?_⟩
      rw [take_z ej] at hi
      rcases List.mem_append.mp hi with h | h
      · simp [all' i h]
      · simp [List.mem_singleton.mp h]
    · rintro σ H4 ⟨⟨x4, rfl⟩, S', sf', mono, Sb, all'⟩
      rw [List.length_map, List.take_length] at all'
      refine ⟨⟨_, _, rfl⟩, S', sf', fun c hc => ?_⟩
      rw [take_z eb] at hc
      rcases List.mem_append.mp hc with h | h
      · exact ⟨mono _ (all c h).1, fun j hj => mono _ ((all c h).2 j hj)⟩
      · rw [List.mem_singleton.mp h]
        exact ⟨Sb, all'⟩
  · rintro σ H2 ⟨⟨x3, x4, rfl⟩, S, sf, all⟩
    rw [List.length_map, List.take_length] at all
    walk_at "ws_17"
    refine ⟨F, S, _, rfl, sf.at_, fun ns p asc mem _ zp => ?_⟩
    refine q p _ ns (sf.keep.trans (Keep.new zp)) ⟨asc, fun k => ?_⟩ upd_same
    rw [mem]
    refine ⟨fun h => sf.only k h, fun ⟨h1, h2⟩ => ?_⟩
    unfold twoB at h2
    rw [Bool.or_eq_true] at h2
    rcases h2 with h2 | h2
    · exact (all k (befL_mem.mpr ⟨h1, h2⟩)).1
    · obtain ⟨b, hb, h3⟩ := List.any_eq_true.mp h2
      rw [Bool.and_eq_true] at h3
      exact (all b (befL_mem.mpr ⟨hb, h3.2⟩)).2 k (befL_mem.mpr ⟨h1, h3.1⟩)
theorem pure__preceding {K : PySem.W.Frag} {vs : List V} {H : Hp} {Q : VK} {E : XK} (h : spPreceding vs H Q E) : t__preceding K { nx := fun _ H' => Q .non H', rt := Q } (start ["log", "tolerance", "value"] vs) H := by
  obtain ⟨t, ops, tol, v, rfl, lg, few, hv, q⟩ := h
  show t__preceding K _ [some (.ref t), some (.int tol), some (.int v)] H
  unfold t__preceding
  walk_at "ws_17"
  refine ⟨t, ops, tol, rfl, lg, few, fun d H1 k1 ta => ?_⟩
  walk_at "ws_17"
  refine ⟨d, ops, tol, v, rfl, ta, few, hv, fun p H2 ns k2 tw hp => ?_⟩
  exact q p H2 ns (k1.trans k2) tw hp
theorem pure_must_precede {K : PySem.W.Frag} {vs : List V} {H : Hp} {Q : VK} {E : XK} (h : spMust vs H Q E) : t_must_precede K { nx := fun _ H' => Q .non H', rt := Q } (start ["log", "tolerance", "one", "other"] vs) H := by
  obtain ⟨t, ops, tol, u, v, rfl, lg, few, fi, hu, hv, q⟩ := h
  show t_must_precede K _ [some (.ref t), some (.int tol), some (.int u), some (.int v)] H
  unfold t_must_precede
  walk_at "ws_17"
  refine ⟨t, ops, tol, rfl, lg, few, fi, fun H1 k1 => ?_⟩
  walk_at "ws_17"
  refine ⟨t, ops, u, rfl, lg.keep k1, few, hu, fun H2 k2 => ?_⟩
  walk_at "ws_17"
  have k02 := k1.trans k2
  refine ⟨t, ops, v, rfl, lg.keep k02, few, hv, fun H3 k3 => ?_⟩
  walk_at "ws_17"
  have k03 := k02.trans k3
  refine ⟨t, ops, tol, v, rfl, lg.keep k03, few, hv, fun p H4 ns k4 tw hp => ?_⟩
  refine o_inIntsY hp ?_
  have e : decide (u ∈ ns) = twoB ops tol u v := by
    cases c : twoB ops tol u v with
    | true => exact decide_eq_true ((tw.2 u).mpr ⟨hu, c⟩)
    | false => exact decide_eq_false fun z => by rw [((tw.2 u).mp z).2] at c; cases c
  rw [e]
  exact q H4 (k03.trans k4)
theorem twoB_is {ops : List Op} {tol u v : Int} (fi : Fine ops tol) (hu : u ∈ vals ops) (hv : v ∈ vals ops) : twoB ops tol u v = true ↔ two ops tol u v := by
  unfold twoB two
  rw [Bool.or_eq_true, ahd_is fi.ok hu hv fi.t1, List.any_eq_true]
  refine or_congr Iff.rfl ⟨?_, ?_⟩
  · rintro ⟨b, hb, h⟩
    rw [Bool.and_eq_true, ahd_is fi.ok hu hb fi.t1, ahd_is fi.ok hb hv fi.t1] at h
    exact ⟨b, hb, h⟩
  · rintro ⟨b, hb, h⟩
    refine ⟨b, hb, ?_⟩
    rw [Bool.and_eq_true, ahd_is fi.ok hu hb fi.t1, ahd_is fi.ok hb hv fi.t1]
    exact h
end LB

open PySem PySem.Spec PyProof.Rows L2 LB
/-! the tactic: one step of a reading; many -/
local macro_rules | `(tactic| walk_at "w1_18") => `(tactic| first
  | with_reducible refine w_seq ?_ | with_reducible refine w_asg ?_ | with_reducible refine w_drop ?_ | with_reducible refine w_ret ?_ | with_reducible refine w_next ?_
  | with_reducible refine w_ifs ?_ | with_reducible refine w_forR1 ?_ | with_reducible refine w_forR2 ?_ | with_reducible refine w_forL ?_ | with_reducible refine w_forT ?_ | with_reducible refine w_name ?_ | with_reducible refine w_sub ?_ | with_reducible refine w_par ?_
  | with_reducible refine w_var (by with_unfolding_all rfl) ?_ | with_reducible refine w_c ?_ | with_reducible refine w_op ?_ | with_reducible refine w_un ?_
  | with_reducible refine w_test ?_ | with_reducible refine w_tb ?_ | with_reducible refine w_nil ?_ | with_reducible refine w_cons ?_ | with_reducible refine w_cb ?_ | with_reducible refine w_call ?_
  | with_reducible refine w_not ?_ | with_reducible refine w_and ?_ | with_reducible refine w_or ?_ | with_reducible refine w_andV ?_ | with_reducible refine w_orV ?_ | with_reducible refine w_notV ?_
  | with_reducible refine w_ife ?_ | with_reducible refine w_chain ?_ | with_reducible refine w_bm ?_ | with_reducible refine w_sl ?_ | with_reducible refine w_part ?_ | with_reducible refine w_nopart ?_
  | with_reducible refine w_exb ?_ | with_reducible refine w_exi ?_ | with_reducible refine w_ex2 ?_ | with_reducible refine w_ex3 ?_ | with_reducible refine w_lstrg ?_ | with_reducible refine w_rg2 ?_ | with_reducible refine w_rg1 ?_ | with_reducible refine w_exij ?_ | with_reducible refine w_tup ?_ | with_reducible refine w_lst ?_
  | with_reducible refine o_add ?_ | with_reducible refine o_sub ?_ | with_reducible refine o_neg ?_ | with_reducible refine o_lt ?_ | with_reducible refine o_le ?_ | with_reducible refine o_gt ?_ | with_reducible refine o_ge ?_
  | with_reducible refine o_ixL (by assumption) (by decide) (by with_unfolding_all rfl) ?_ | with_reducible refine o_ixT (by assumption) (by decide) (by with_unfolding_all rfl) ?_
  | with_reducible refine o_mod (by first | decide | omega) ?_ | with_reducible refine o_mul (by first | decide | omega) ?_ | with_reducible refine o_fdv (by first | decide | omega) (by first | decide | omega) ?_ | with_reducible refine o_setL (by assumption) (by decide) (by simp) ?_
  | with_reducible refine oo_addi ?_ | with_reducible refine oo_sub ?_ | with_reducible refine oo_neg ?_ | with_reducible refine w_rev ?_ | with_reducible refine w_m0 ?_
  | with_reducible refine w_par3 ?_ | with_reducible refine w_tyl (by assumption) ?_
  | with_reducible refine o_abs ?_ | with_reducible refine o_eqs (by with_unfolding_all rfl) ?_ | with_reducible refine o_nes (by with_unfolding_all rfl) ?_ | with_reducible refine o_max2 ?_ | with_reducible refine o_min2 ?_ | with_reducible refine o_isiX (by assumption) ?_ | with_reducible refine o_lenl (by assumption) ?_ | with_reducible refine o_lent (by assumption) ?_ | with_reducible refine o_int1b ?_)
local macro_rules | `(tactic| walk_at "ws_18") => `(tactic| repeat (first | walk_at "w1_18" | dsimp only [List.set_cons_zero, List.set_cons_succ]))
namespace LB
/-! ### k25: a log that is explained, drawn: every value 0 or written -/
def spTrue25 : Sp := fun vs H Q _ => ∃ (p : Addr) (many off step : Int) (N : Nat), vs = [.ref p, .int many, .int off, .int step] ∧ Pot H p N ∧ 0 ≤ many ∧ many ≤ 200 ∧ 0 ≤ off ∧ off ≤ 100 ∧ 0 ≤ step ∧ step ≤ 1000 ∧ 8 * many.toNat + 8 ≤ N ∧
  ∀ (H' : Hp) (t : Addr) (ops : List Op), Keep (At p) H H' → Pot H' p (N - (8 * many.toNat + 8)) → DD All H' (.ref t) (.tuple (ops.map Op.dat)) → LogOk ops → ops.length = many.toNat →
    (∀ o ∈ ops, o.v ≤ many ∧ -100000000 ≤ o.b ∧ o.e ≤ 100000100000000) → (∀ o ∈ ops, o.v = 0 ∨ o.v ∈ wr ops) → Q (.ref t) H'
theorem spTrue25_arity {vs : List V} {H : Hp} {Q : VK} {E : XK} (h : spTrue25 vs H Q E) : vs.length = 4 := by
  obtain ⟨_, _, _, _, _, rfl, _⟩ := h
  rfl
def TrueI25 (p f g : Addr) (many off step : Int) (ns : List Int) (H : Hp) (N i : Nat) (σ : LB.St) (H' : Hp) : Prop := ∃ (ops : List Op) (xs : List V) (wv tm : Int) (x8 x9 x10 x11 x12 : Option V),
      σ = [some (.ref p), some (.int many), some (.int off), some (.int step), some (.ref f), some (.int wv), some (.int tm), some (.ref g), x8, x9, x10, x11, x12] ∧ Keep (At p) H H' ∧ Pot H' p (N - 6 * i) ∧ H' f = some (.lst xs) ∧
      DDs All H' xs (ops.map Op.dat) ∧ H' g = some (.lst (ns.map V.int)) ∧ LogOk ops ∧ (∀ z ∈ wr ops, ∃ j, j < i ∧ ns[j]? = some z) ∧ (∀ o ∈ ops, o.v ≤ many ∧ -100000000 ≤ o.b ∧ o.e ≤ 100000100000000) ∧ ops.length = i ∧ 0 ≤ wv ∧ wv ≤ many ∧ -7 ≤ tm ∧ tm ≤ 100000000000000 + i * step ∧ (∀ o ∈ ops, o.v = 0 ∨ o.v ∈ wr ops) ∧ (wv = 0 ∨ wv ∈ wr ops)
theorem pure25__law_true {K : PySem.W.Frag} {vs : List V} {H : Hp} {Q : VK} {E : XK} (h : spTrue25 vs H Q E) : t__law_true K { nx := fun _ H' => Q .non H', rt := Q } (start ["pot", "many", "off", "step", "found", "worth", "time", "names", "turn", "kind", "ends", "begin", "end"] vs) H := by
  obtain ⟨p, many, off, step, N, rfl, pt, m0, m1, o0, o1, s0, s1, hN, q⟩ := h
  show t__law_true K _ [some (.ref p), some (.int many), some (.int off), some (.int step), none, none, none, none, none, none, none, none, none] H
  unfold t__law_true
  walk_at "ws_18"
  refine k_lst (by simp) fun f H1 n1 => ?_
  walk_at "ws_18"
  refine o_pow ⟨by decide, by decide +kernel⟩ ?_
  walk_at "ws_18"
  rw [show (10 : Int) ^ (14 : Int).toNat = 100000000000000 by decide +kernel]
  refine k_lst (by simp; decide) fun z0 H2 n2 => ?_
  walk_at "ws_18"
  have pf : p ≠ f := pt.ne n1.no
  refine o_any ((pt.new n1).new n2) (by omega) (fun e => ((pt.new n1).ne n2.no) e.symm) (.inl n2.at_) (by simp) (by simp) fun H3 j v ev kp3 pt3 => ?_
  obtain ⟨tm, rfl, t0, t1⟩ := start_any ev
  walk_at "ws_18"
  have hf3 := kp3.all _ _ (fun z => pf z.symm) (n2.get n1.at_)
  obtain ⟨n, rfl⟩ := Int.eq_ofNat_of_zero_le m0
  refine k_lr (RgOk.of_le (by omega) (by omega) (by omega) (by omega)) fun l H4 n4 => ?_
  walk_at "ws_18"
  rw [rg_map] at n4
  have pt4 := pt3.new n4
  refine ⟨p, l, _, ((List.range n).map fun i => (1 : Int) + (i : Nat)).map PyData.int, _, rfl, pt4, by simp; omega, fun e => (pt3.ne n4.no) e.symm, .inl n4.at_, by simp; omega, ints_dds _, fun d hd => ?_, fun H5 g ys pm g0 hg kp5 pt5 => ?_⟩
  · obtain ⟨z, _, rfl⟩ := List.mem_map.mp hd
    exact ⟨by simp only [PyData.canLay0], by simp only [PyData.depth]; omega⟩
  obtain ⟨ns, rfl, pn⟩ := perm_ints pm
  have hnd : ns.Nodup := pn.nodup_iff.mp (range_nodup n)
  have hnb : ∀ z ∈ ns, 1 ≤ z ∧ z ≤ n := fun z hz => by
    obtain ⟨i, hi, rfl⟩ := List.mem_map.mp (pn.mem_iff.mpr hz)
    have := List.mem_range.mp hi
    omega
  have hnl : ns.length = n := by rw [← pn.length_eq, List.length_map, List.length_range]
  simp only [List.length_map, List.length_range] at pt5
  have hf5 := kp5.all _ _ (fun z => pf z.symm) (n4.get hf3)
  have k05 : Keep (At p) H H5 := ((n1.keep.trans n2.keep).trans kp3).trans ((n4.keep).trans kp5)
  have pg : p ≠ g := pt4.ne g0
  have fg : f ≠ g := fun e => by
    have := n4.get hf3
    rw [e, g0] at this
    cases this
  have g0' : H g = none := by
    cases e : H g with
    | none => rfl
    | some o =>
      have e4 : H4 g = some o := n4.get (kp3.all _ _ (fun z => pg z.symm) (n2.get (n1.get e)))
      rw [g0] at e4
      cases e4
  walk_at "ws_18"
  refine k_R1 (by omega) (by omega) (TrueI25 p f g n off step ns H (N - 1 - n)) ?_ ?_ ?_
  · exact ⟨[], [], 0, tm, _, _, _, _, _, rfl, k05, pt5, hf5, .nil, hg, ⟨fun o ho => by (cases ho), List.Pairwise.nil⟩, fun z hz => by (cases hz), fun o ho => by (cases ho), rfl, by omega, by omega, t0, by omega, fun o ho => by (cases ho), .inl rfl⟩
  · rintro i σ H6 hi ⟨ops, xs, wv, tm, x8, x9, x10, x11, x12, rfl, kp, pt6, hf, hd, hgg, lo, hin, ho, hl, w0, w1, t0, t1, kn, kw⟩
    have hi' : i < n := by omega
    have hlx : xs.length = i := by rw [hd.length, List.length_map, hl]
    have hstep : (i : Int) * step ≤ 200 * 1000 := Int.mul_le_mul (by omega) s1 s0 (by omega)
    have hstep1 : ((i + 1 : Nat) : Int) * step = i * step + step := by
      have : ((i + 1 : Nat) : Int) = (i : Int) + 1 := by omega
      rw [this, Int.add_mul, Int.one_mul]
    walk_at "ws_18"
    unfold t__law_true_2
    walk_at "ws_18"
    refine o_draw pt6 (by omega) (by omega) (by omega) fun H7 k kp7 pt7 k0 k1 => ?_
    walk_at "ws_18"
    refine k_lst (by simp; decide) fun z H8 n8 => ?_
    walk_at "ws_18"
    refine o_any (pt7.new n8) (by omega) (fun e => (pt7.ne n8.no) e.symm) (.inl n8.at_) (by simp) (by simp) fun H9 j v ev kp9 pt9 => ?_
    obtain ⟨w, rfl⟩ := kind_any ev
    have k69 : Keep (At p) H6 H9 := (kp7.trans n8.keep).trans kp9
    have hf9 := k69.all _ _ (fun z => pf z.symm) hf
    have hg9 := k69.all _ _ (fun z => pg z.symm) hgg
    have hd9 := hd.keep (k69.mono fun _ _ => trivial)
    walk_at "ws_18"
    rw [kind_eq]
    -- the value of the operation, then the rest of the turn
    have hni : ns[i]? = some ns[i] := List.getElem?_eq_getElem (by omega)
    have rest : ∀ (D : Ends) (wv' : Int), 0 ≤ wv' → wv' ≤ n → (w = true → wv' = ns[i]) → (w = true ∨ wv' = 0 ∨ wv' ∈ wr ops) → (∀ σ H', TrueI25 p f g n off step ns H (N - 1 - n) (i + 1) σ H' → D.nx σ H') →
        t__law_true_1 K D [some (.ref p), some (.int n), some (.int off), some (.int step), some (.ref f), some (.int wv'), some (.int (tm + k)), some (.ref g), some (.int (0 + i)), some (.str (kindS w)), x10, x11, x12] H9 := by
      intro D wv' a0 a1 aw akw hD
      unfold t__law_true_1
      walk_at "ws_18"
      refine o_draw pt9 (by omega) (by omega) (by omega) fun H10 e1 kp10 pt10 e10 e11 => ?_
      walk_at "ws_18"
      refine o_draw pt10 (by omega) (by omega) (by omega) fun H11 e2 kp11 pt11 e20 e21 => ?_
      walk_at "ws_18"
      refine k_tup (by simp; decide) fun u H12 n12 => ?_
      have pt12 := pt11.new n12
      walk_at "ws_18"
      refine o_ixT n12.at_ (by decide) rfl ?_
      walk_at "ws_18"
      refine o_draw pt12 (by omega) (by omega) (by omega) fun H13 e3 kp13 pt13 e30 e31 => ?_
      have hu13 := kp13.tup _ _ n12.at_
      walk_at "ws_18"
      refine o_draw pt13 (by omega) (by omega) (by omega) fun H14 e4 kp14 pt14 e40 e41 => ?_
      have k914 : Keep (At p) H9 H14 := ((kp10.trans kp11).trans (n12.keep.trans kp13)).trans kp14
      have hf14 := k914.all _ _ (fun z => pf z.symm) hf9
      have hg14 := k914.all _ _ (fun z => pg z.symm) hg9
      have hd14 := hd9.keep (k914.mono fun _ _ => trivial)
      walk_at "ws_18"
      generalize hb : (tm + k - e1 - off + e3) = bg
      generalize he : (tm + k + e2 - off + e4) = en
      refine k_tup (by simp; decide) fun t H15 n15 => ?_
      walk_at "ws_18"
      refine o_app (n15.get hf14) (Nat.lt_of_le_of_lt (by omega : xs.length ≤ 1000) (by decide)) fun H16 p16 => ?_
      walk_at "ws_18"
      have dn : DD All H16 (.ref t) (Op.dat ⟨w, wv', if en < bg then en else bg, if en > bg then en else bg⟩) := (op_new n15).keep (p16.keep (S := All) trivial (n15.get hf14))
      have b1 : (if en < bg then en else bg) ≤ (if en > bg then en else bg) := by split <;> split <;> omega
      have b2 : -100000000 ≤ (if en < bg then en else bg) := by split <;> omega
      have b3 : (if en > bg then en else bg) ≤ 100000100000000 := by split <;> omega
      have hwr : wr (ops ++ [⟨w, wv', if en < bg then en else bg, if en > bg then en else bg⟩]) = if w = true then wr ops ++ [wv'] else wr ops := by
        rw [wr_append]
        cases w
        · show wr ops ++ [] = _
          rw [List.append_nil, if_neg (by simp)]
        · rfl
      refine hD _ _ ⟨ops ++ [⟨w, wv', if en < bg then en else bg, if en > bg then en else bg⟩], xs ++ [.ref t], wv', tm + k, _, _, _, _, _, rfl, ?_, ((pt14.new n15).put p16 pf).le (by omega), p16.at_, ?_, ?_, ?_, ?_, ?_, ?_, a0, a1, by omega, by omega, ?_, ?_⟩
      · exact p16.keep0 (((kp.trans k69).trans k914).trans n15.keep) n1.no (n15.get hf14)
      · rw [List.map_append]
        exact ((hd14.keep n15.keep).keep (p16.keep (S := All) trivial (n15.get hf14))).snoc dn
      · exact p16.get fg.symm (n15.get hg14)
      · refine ⟨fun o ho' => ?_, ?_⟩
        · rcases List.mem_append.mp ho' with ho' | ho'
          · exact lo.1 o ho'
          · simp only [List.mem_cons, List.not_mem_nil, or_false] at ho'
            subst ho'
            refine ⟨fun hw => ?_, a0, by show wv' ≤ _; omega, by show _ ≤ (if en < bg then en else bg); omega, b1, by show (if en > bg then en else bg) ≤ _; omega⟩
            have := hnb _ (List.mem_of_getElem? hni)
            have e := aw hw
            show 1 ≤ wv'
            omega
        · rw [hwr]
          split
          · rename_i hw
            refine List.nodup_append.mpr ⟨lo.2, by simp, fun a ha b hb' => ?_⟩
            simp at hb'
            subst hb'
            intro e
            obtain ⟨j, hj, ej⟩ := hin a ha
            rw [e, aw hw, ← hni] at ej
            have := (List.getElem?_inj (i := j) (j := i) (by omega) hnd).mp ej
            omega
          · exact lo.2
      · intro z hz
        rw [hwr] at hz
        split at hz
        · rename_i hw
          rcases List.mem_append.mp hz with hz | hz
          · obtain ⟨j, hj, ej⟩ := hin z hz
            exact ⟨j, by omega, ej⟩
          · simp at hz
            subst hz
            exact ⟨i, by omega, by rw [aw hw]; exact hni⟩
        · obtain ⟨j, hj, ej⟩ := hin z hz
          exact ⟨j, by omega, ej⟩
      · intro o ho'
        rcases List.mem_append.mp ho' with ho' | ho'
        · exact ho o ho'
        · simp only [List.mem_cons, List.not_mem_nil, or_false] at ho'
          subst ho'
          exact ⟨a1, b2, b3⟩
      · rw [List.length_append, hl]
        rfl
      · intro o ho'
        rw [wr_append]
        rcases List.mem_append.mp ho' with ho' | ho'
        · exact (kn o ho').imp_right fun z => List.mem_append_left _ z
        · simp only [List.mem_cons, List.not_mem_nil, or_false] at ho'
          subst ho'
          rcases akw with e | e | e
          · subst e
            exact .inr (List.mem_append_right _ (by simp [wr]))
          · exact .inl e
          · exact .inr (List.mem_append_left _ e)
      · rw [wr_append]
        rcases akw with e | e | e
        · subst e
          exact .inr (List.mem_append_right _ (by simp [wr]))
        · exact .inl e
        · exact .inr (List.mem_append_left _ e)
    refine w_iteb (fun hw => ?_) (fun hw => ?_)
    · walk_at "ws_18"
      refine o_ixL (v := .int ns[i]) hg9 (by omega) (by rw [show (0 + (i : Int)).toNat = i by omega, List.getElem?_map, hni]; rfl) ?_
      walk_at "ws_18"
      have := hnb _ (List.mem_of_getElem? hni)
      exact rest _ _ (by omega) (by omega) (fun _ => rfl) (.inl hw) fun _ _ h => h
    · walk_at "ws_18"
      exact rest _ _ w0 w1 (fun h => by rw [h] at hw; cases hw) (.inr kw) fun _ _ h => h
  · rintro σ H6 ⟨ops, xs, wv, tm, x8, x9, x10, x11, x12, rfl, kp, pt6, hf, hd, hgg, lo, hin, ho, hl, w0, w1, t0, t1, kn, kw⟩
    have hlx : xs.length = n := by rw [hd.length, List.length_map, hl]; omega
    walk_at "ws_18"
    refine ⟨p, f, xs, ops.map Op.dat, _, rfl, pt6, by omega, pf.symm, .inl hf, by omega, hd, fun d hd => ?_, fun H7 g' ys pm g0 hg kp7 pt7 => ?_⟩
    · obtain ⟨o, _, rfl⟩ := List.mem_map.mp hd
      exact o.lay
    · walk_at "ws_18"
      refine o_tupof hg fun t H8 n8 => ?_
      obtain ⟨es, pe, de⟩ := hd.perm pm
      obtain ⟨bs, eb, pb⟩ := perm_map_inv pe rfl
      subst eb
      refine q H8 t bs ((kp.trans kp7).trans n8.keep) ((pt7.new n8).le (by omega)) (.tup n8.at_ ((de.keep (kp7.mono fun _ _ => trivial)).keep n8.keep)) (lo.perm pb) ?_ (fun o ho' => ho o (pb.mem_iff.mpr ho')) fun o ho' => (kn o (pb.mem_iff.mpr ho')).imp_right fun z => ((pb.filter _).map _).mem_iff.mp z
      rw [← pb.length_eq, hl]
end LB

open PySem PySem.Spec PyProof.Rows L2 LB GenW
/-! the tactic: one step of a reading; many -/
local macro_rules | `(tactic| walk_at "w1_19") => `(tactic| first
  | with_reducible refine w_seq ?_ | with_reducible refine w_asg ?_ | with_reducible refine w_drop ?_ | with_reducible refine w_ret ?_ | with_reducible refine w_next ?_
  | with_reducible refine w_ifs ?_ | with_reducible refine w_forR1 ?_ | with_reducible refine w_forR2 ?_ | with_reducible refine w_forL ?_ | with_reducible refine w_forT ?_ | with_reducible refine w_name ?_ | with_reducible refine w_sub ?_ | with_reducible refine w_par ?_
  | with_reducible refine w_var (by with_unfolding_all rfl) ?_ | with_reducible refine w_c ?_ | with_reducible refine w_op ?_ | with_reducible refine w_un ?_
  | with_reducible refine w_test ?_ | with_reducible refine w_tb ?_ | with_reducible refine w_nil ?_ | with_reducible refine w_cons ?_ | with_reducible refine w_cb ?_ | with_reducible refine w_call ?_
  | with_reducible refine w_not ?_ | with_reducible refine w_and ?_ | with_reducible refine w_or ?_ | with_reducible refine w_andV ?_ | with_reducible refine w_orV ?_ | with_reducible refine w_notV ?_
  | with_reducible refine w_ife ?_ | with_reducible refine w_chain ?_ | with_reducible refine w_bm ?_ | with_reducible refine w_sl ?_ | with_reducible refine w_part ?_ | with_reducible refine w_nopart ?_
  | with_reducible refine w_exb ?_ | with_reducible refine w_exi ?_ | with_reducible refine w_ex2 ?_ | with_reducible refine w_ex3 ?_ | with_reducible refine w_lstrg ?_ | with_reducible refine w_rg2 ?_ | with_reducible refine w_rg1 ?_ | with_reducible refine w_exij ?_ | with_reducible refine w_tup ?_ | with_reducible refine w_lst ?_
  | with_reducible refine o_add ?_ | with_reducible refine o_sub ?_ | with_reducible refine o_neg ?_ | with_reducible refine o_lt ?_ | with_reducible refine o_le ?_ | with_reducible refine o_gt ?_ | with_reducible refine o_ge ?_
  | with_reducible refine o_ixL (by assumption) (by decide) (by with_unfolding_all rfl) ?_ | with_reducible refine o_ixT (by assumption) (by decide) (by with_unfolding_all rfl) ?_
  | with_reducible refine o_mod (by first | decide | omega) ?_ | with_reducible refine o_mul (by first | decide | omega) ?_ | with_reducible refine o_fdv (by first | decide | omega) (by first | decide | omega) ?_ | with_reducible refine o_setL (by assumption) (by decide) (by simp) ?_
  | with_reducible refine oo_addi ?_ | with_reducible refine oo_sub ?_ | with_reducible refine oo_neg ?_ | with_reducible refine w_rev ?_ | with_reducible refine w_m0 ?_
  | with_reducible refine w_par3 ?_ | with_reducible refine w_tyl (by assumption) ?_
  | with_reducible refine o_abs ?_ | with_reducible refine o_eqs (by with_unfolding_all rfl) ?_ | with_reducible refine o_nes (by with_unfolding_all rfl) ?_ | with_reducible refine o_max2 ?_ | with_reducible refine o_min2 ?_ | with_reducible refine o_isiX (by assumption) ?_ | with_reducible refine o_lenl (by assumption) ?_ | with_reducible refine o_lent (by assumption) ?_ | with_reducible refine o_int1b ?_)
local macro_rules | `(tactic| walk_at "ws_19") => `(tactic| repeat (first | walk_at "w1_19" | dsimp only [List.set_cons_zero, List.set_cons_succ]))
namespace LB
/-! ### k25: the law's own least tolerance -/
abbrev rDictP (K : PySem.W.Frag) : List V → Hp → VK → Prop := fun xs H Q => ∃ (a : Addr) (ps : List Addr) (kvs : List (Key × V)), xs = [.ref a] ∧ SqL K H a (ps.map V.ref) ∧ Paired (fun p kv => SqT K H p [kV kv.1, kv.2]) ps kvs ∧
    ∀ p, H p = none → Q (.ref p) (upd H p (.dK (mergeK [] kvs)))
def lostL (ops : List Op) : List Int := (vals ops).filter fun v => decide (0 < v) && !decide (v ∈ wr ops)
def spLost : Sp := fun vs H Q _ => ∃ (t : Addr) (ops : List Op), vs = [.ref t] ∧ LogAt H t ops ∧ ops.length ≤ 200 ∧ ∀ (p : Addr) (H' : Hp), Keep NoS H H' → H p = none → H' p = some (.lst ((lostL ops).map V.int)) → Q (.ref p) H'
theorem spLost_arity {vs : List V} {H : Hp} {Q : VK} {E : XK} (h : spLost vs H Q E) : vs.length = 1 := by obtain ⟨_, _, rfl, _⟩ := h; rfl
/-- what the gaps hold -/
structure GapL (ops : List Op) (gs : List Int) : Prop where
  rd : ∀ r ∈ ops, r.w = false → ∀ w ∈ ops, w.w = true → w.v = r.v → w.b - r.e ∈ gs
  cr : ∀ u ∈ vals ops, ∀ v ∈ vals ops, u < v → (if lastB ops u - fstL ops v < lastB ops v - fstL ops u then lastB ops u - fstL ops v else lastB ops v - fstL ops u) ∈ gs
  le : ∀ g ∈ gs, g ≤ 2000000000000000
  few : gs.length ≤ 10000
def spGaps : Sp := fun vs H Q _ => ∃ (t : Addr) (ops : List Op), vs = [.ref t] ∧ LogAt H t ops ∧ ops.length ≤ 20 ∧ LogOk ops ∧ lostL ops = [] ∧ ∀ (p : Addr) (H' : Hp) (gs : List Int), Keep NoS H H' → H p = none → H' p = some (.lst (gs.map V.int)) → GapL ops gs → Q (.ref p) H'
theorem spGaps_arity {vs : List V} {H : Hp} {Q : VK} {E : XK} (h : spGaps vs H Q E) : vs.length = 1 := by obtain ⟨_, _, rfl, _⟩ := h; rfl
/-- a tolerance at which the log is explained -/
structure LeastI (ops : List Op) (m : Int) : Prop where
  rd : ∀ r ∈ ops, r.w = false → ∀ w ∈ ops, w.w = true → w.v = r.v → w.b - r.e ≤ m
  cr : ∀ u ∈ vals ops, ∀ v ∈ vals ops, u < v → (if lastB ops u - fstL ops v < lastB ops v - fstL ops u then lastB ops u - fstL ops v else lastB ops v - fstL ops u) ≤ m
  ge : 0 ≤ m
theorem LeastI.more {ops : List Op} {m n : Int} (h : LeastI ops m) (l : m ≤ n) : LeastI ops n :=
  ⟨fun r hr hw w ww a b => Int.le_trans (h.rd r hr hw w ww a b) l, fun u hu v hv a => Int.le_trans (h.cr u hu v hv a) l, Int.le_trans h.ge l⟩
def spLeastL : Sp := fun vs H Q _ => ∃ (t : Addr) (ops : List Op), vs = [.ref t] ∧ LogAt H t ops ∧ ops.length ≤ 20 ∧ LogOk ops ∧ lostL ops = [] ∧ ∀ (m : Int) (H' : Hp), Keep NoS H H' → LeastI ops m → m ≤ 2000000000000000 → Q (.int m) H'
theorem spLeastL_arity {vs : List V} {H : Hp} {Q : VK} {E : XK} (h : spLeastL vs H Q E) : vs.length = 1 := by obtain ⟨_, _, rfl, _⟩ := h; rfl
theorem lost_kn {ops : List Op} (ok : ∀ o ∈ ops, o.ok) (h : lostL ops = []) : ∀ o ∈ ops, o.v = 0 ∨ o.v ∈ wr ops := fun o ho => by
  have hv : o.v ∈ vals ops := vals_mem.mpr (List.mem_map.mpr ⟨o, ho, rfl⟩)
  by_cases z : o.v = 0
  · exact .inl z
  · refine .inr ?_
    have h0 := (ok o ho).2.1
    have := List.filter_eq_nil_iff.mp h o.v hv
    simp only [Bool.and_eq_true, decide_eq_true_eq, Bool.not_eq_true', decide_eq_false_iff_not, not_and, Classical.not_not] at this
    exact this (by omega)
theorem kn_lost {ops : List Op} (kn : ∀ o ∈ ops, o.v = 0 ∨ o.v ∈ wr ops) : lostL ops = [] := by
  refine List.filter_eq_nil_iff.mpr fun v hv => ?_
  obtain ⟨i, o, e, rfl⟩ := vals_at.mp hv
  rcases kn o (List.mem_of_getElem? e) with h | h
  · simp [h]
  · simp [h]
/-- at such a tolerance all is as it should be -/
theorem fine_of {ops : List Op} {tol : Int} (lo : LogOk ops) (kn : ∀ o ∈ ops, o.v = 0 ∨ o.v ∈ wr ops) (h : LeastI ops tol) (t1 : tol ≤ 10000000000000000) : Fine ops tol := by
  refine ⟨lo.1, lo.2, h.ge, t1, kn, fun r hr w hw ww e z => ?_, fun u hu v hv n ⟨l1, l2⟩ => ?_⟩
  · cases c : r.w with
    | false =>
      have := h.rd r hr c w hw ww e
      omega
    | true =>
      obtain ⟨i, hi⟩ := List.mem_iff_getElem?.mp hr
      obtain ⟨j, hj⟩ := List.mem_iff_getElem?.mp hw
      have ij := wr_uniq lo.2 hi c hj ww e.symm
      subst ij
      rw [hi] at hj
      cases hj
      have := (lo.1 r hr).2.2.2.2.1
      have := h.ge
      omega
  · rcases Int.lt_or_gt_of_ne n with l | l
    · have := h.cr u hu v hv l
      split at this <;> omega
    · have := h.cr v hv u hu l
      split at this <;> omega
def t__law_lost (K : PySem.W.Frag) : TS :=
  (tSeq (tAsg (tLc (iSeq K (tVar 0)) (gName 2) (tTest (tOp (rEqA K) (tOp (rIx K) (tVar 2) (tC (V.int 0))) (tC (V.str "write")))) (tOp (rIx K) (tVar 2) (tC (V.int 1))) [2]) (gName 1))
    (tRet (tLc (iSeq K (tCall spWorths [] E0 (tCons (tVar 0) tNil))) (gName 3) (tAnd (tTest (tOp rGtI (tVar 3) (tC (V.int 0)))) (tTest (tOp (rNiA K) (tVar 3) (tVar 1)))) (tVar 3) [3])))

def t__law_gaps_1 (K : PySem.W.Frag) : TS :=
  (tIfS (tAnd (tTest (tOp (rEqA K) (tOp (rIx K) (tVar 4) (tC (V.int 0))) (tC (V.str "read")))) (tB (tDIn (tOp (rIx K) (tVar 4) (tC (V.int 1))) (tVar 3))))
    (tDrop (tBM K "list" rAppend (tVar 2) (tCons (tOp rSubI (tOp (rIx K) (tDGet (tVar 3) (tOp (rIx K) (tVar 4) (tC (V.int 1)))) (tC (V.int 2))) (tOp (rIx K) (tVar 4) (tC (V.int 3)))) tNil))) tNext)

def t__law_gaps_2 (K : PySem.W.Frag) : TS :=
  (tDrop (tBM K "list" rAppend (tVar 2) (tCons (tCB rMin2 (tCons (tOp rSubI (tOp (rIx K) (tDGet (tVar 1) (tVar 8)) (tC (V.int 1))) (tOp (rIx K) (tDGet (tVar 1) (tVar 4)) (tC (V.int 0)))) (tCons (tOp rSubI (tOp (rIx K) (tDGet (tVar 1) (tVar 4)) (tC (V.int 1))) (tOp (rIx K) (tDGet (tVar 1) (tVar 8)) (tC (V.int 0)))) tNil))) tNil)))

def t__law_gaps_3 (K : PySem.W.Frag) : TS :=
  (tFor (iSeq K (tSl (rSlAny K) (tVar 5) (tPart (tOp (rAddA K) (tVar 7) (tC (V.int 1)))) tNoPart)) (gName 8)
    (t__law_gaps_2 K))

def t__law_gaps (K : PySem.W.Frag) : TS :=
  (tSeq (tPar 1 2 (tCons (tCall spEndsL [] E0 (tCons (tVar 0) tNil)) (tCons (tLst tNil) tNil)))
    (tSeq (tAsg (tCB (rDictP K) (tCons (tLc (iSeq K (tVar 0)) (gName 4) (tTest (tOp (rEqA K) (tOp (rIx K) (tVar 4) (tC (V.int 0))) (tC (V.str "write")))) (tTup (tCons (tOp (rIx K) (tVar 4) (tC (V.int 1))) (tCons (tVar 4) tNil))) [4]) tNil)) (gName 3))
    (tSeq (tFor (iSeq K (tVar 0)) (gName 4)
    (t__law_gaps_1 K))
    (tSeq (tLock (tAsg (tLc (iKeys (tVar 1)) (gName 6) (tTest (tOp (rNiA K) (tVar 6) (tCall spLost [] E0 (tCons (tVar 0) tNil)))) (tVar 6) [6]) (gName 5)))
    (tSeq (tFor (iEnA K (tCons (tVar 5) tNil)) (gTup K 2 (gCons (gName 7) (gCons (gName 4) gNil)))
    (t__law_gaps_3 K))
    (tRet (tVar 2)))))))

def t__law_least (K : PySem.W.Frag) : TS :=
  (tRet (tIf (tTest (tOp (rEqA K) (tCall spLost [] E0 (tCons (tVar 0) tNil)) (tLst tNil))) (tCB (rMax K) (tCons (tOp (rAddA K) (tLst (tCons (tC (V.int 0)) tNil)) (tCall spGaps [] E0 (tCons (tVar 0) tNil))) tNil)) (tC V.non)))

theorem lc_flm25 {K : PySem.W.Frag} {σ : LB.St} {H : Hp} {Q : VK} {t : Addr} {ops : List Op} {s i : Nat} {tt : TT} {te : TE} {p : Op → Bool} {key : Op → V} (es : σ[s]? = some (some (.ref t))) (lg : LogAt H t ops) (few : ops.length ≤ 1000)
    (ht : ∀ (u : Addr) (o : Op) (H2 : Hp) (Qb : Bool → Hp → Prop), H2 u = some (opT o) → Qb (p o) H2 → tt ((σ.set i none).set i (some (.ref u))) H2 Qb)
    (he : ∀ (u : Addr) (o : Op) (H2 : Hp) (Q2 : VK), H2 u = some (opT o) → Q2 (key o) H2 → te ((σ.set i none).set i (some (.ref u))) H2 Q2)
    (q : ∀ (b : Addr) (H' : Hp), Keep NoS H H' → H b = none → H' b = some (.lst ((ops.filter p).map key)) → Q (.ref b) H') : tLc (iSeq K (tVar s)) (gName i) tt te [i] σ H Q := by
  obtain ⟨xs, hx, hl, hi⟩ := id lg
  refine .inr (w_var es ⟨t, rfl, ⟨xs, .inl (.inl hx)⟩, fun D hD => ?_⟩)
  refine lc_tup (xs := xs) (fun n H' => Keep NoS H H' ∧ H' D = some (.lst (((ops.take n).filter p).map key))) ⟨Keep.new hD, upd_same⟩ (fun n H' _ h => .inl (.inl (h.1.tup _ _ hx))) ?_ ?_
  · rintro n x H1 hn ⟨k1, hb⟩
    have ln : n < ops.length := by
      rw [← hl]
      by_cases z : n < xs.length
      · exact z
      · rw [List.getElem?_eq_none (by omega)] at hn; cases hn
    have ho : ops[n]? = some ops[n] := List.getElem?_eq_getElem ln
    obtain ⟨u, e1, e2⟩ := hi n _ ho
    rw [hn] at e1
    cases e1
    refine ⟨by show ((σ.set i none).set i _).set i none = σ.set i none; rw [List.set_set, List.set_set], ?_⟩
    have hu := k1.tup _ _ e2
    refine ht u ops[n] H1 _ hu ?_
    have et : (ops.take (n + 1)).filter p = (ops.take n).filter p ++ (if p ops[n] = true then [ops[n]] else []) := by
      rw [List.take_add_one, ho, List.filter_append]
      cases c : p ops[n] <;> simp [c]
    refine w_iteb (fun c => ?_) (fun c => ?_)
    · refine he u ops[n] H1 _ hu ⟨_, hb, ?_, k1.put0 hD hb, ?_⟩
      · rw [List.length_map]
        have := List.length_filter_le p (ops.take n)
        rw [List.length_take] at this
        exact Nat.lt_of_le_of_lt (by omega : _ ≤ 1000) (by decide)
      · rw [et, if_pos c, List.map_append]
        exact upd_same
    · refine ⟨k1, ?_⟩
      rw [et, c]
      simpa using hb
  · rintro H1 ⟨k1, hb⟩
    rw [hl, List.take_length] at hb
    exact q D H1 k1 hD hb
theorem walk_zs_lst {K : PySem.W.Frag} {a : Addr} {ns : List Int} : Walk (Itl K a) ns.length (fun H => H a = some (.lst (ns.map V.int))) fun i H x H' => H' = H ∧ ∃ v, ns[i]? = some v ∧ x = V.int v := by
  have w := walk_list (K := K) (a := a) (xs := ns.map V.int)
  rw [List.length_map] at w
  refine w.mono (fun H h => .inl (.inl h)) fun i H x H' _ _ ⟨e, hx⟩ => ⟨e, ?_⟩
  rw [List.getElem?_map] at hx
  obtain ⟨v, hv, rfl⟩ := Option.map_eq_some_iff.mp hx
  exact ⟨v, hv, rfl⟩
theorem pure__law_lost {K : PySem.W.Frag} {vs : List V} {H : Hp} {Q : VK} {E : XK} (h : spLost vs H Q E) : t__law_lost K { nx := fun _ H' => Q .non H', rt := Q } (start ["log", "written", "one", "value"] vs) H := by
  obtain ⟨t, ops, rfl, lg, few, q⟩ := h
  show t__law_lost K _ [some (.ref t), none, none, none] H
  unfold t__law_lost
  walk_at "ws_19"
  refine lc_flm25 (t := t) (p := fun o => o.w) (key := fun o => .int o.v) (by with_unfolding_all rfl) lg (by omega) (fun u o H2 Qb hu hq => ?_) (fun u o H2 Q2 hu hq => w_op (w_var (by with_unfolding_all rfl) (w_c (o_ixt (n := 1) hu rfl hq)))) fun b H1 k1 zb hb => ?_
  · refine w_test (w_op (w_op (w_var (by with_unfolding_all rfl) (w_c (o_ixt (n := 0) hu rfl (w_c ?_))))))
    refine o_eqs rfl ⟨_, rfl, ?_⟩
    rw [kind_eq]
    exact hq
  have eb : (ops.filter fun o => o.w).map (fun o => V.int o.v) = (wr ops).map V.int := by
    unfold wr
    rw [List.map_map]
    rfl
  rw [eb] at hb
  walk_at "ws_19"
  refine w_lcL ?_
  refine w_call (w_cons (w_var (by with_unfolding_all rfl) (w_nil ?_)))
  have vl := vals_len ops
  refine ⟨t, ops, rfl, lg.keep k1, few, fun p H2 k2 _ hp => ⟨p, rfl, ⟨_, .inl (.inl hp)⟩, ?_⟩⟩
  refine lc_zs (p := fun v => decide (0 < v) && !decide (v ∈ wr ops)) walk_zs_lst (by omega) (fun H' k => k.all _ _ id hp) (fun v H4 Qb hv k4 qb => ?_) (fun v H4 Q2 hv hq => ?_) fun L H4 k4 zL hL => ?_
  · show tAnd _ _ [some (.ref t), some (.ref b), none, some (.int v)] H4 Qb
    walk_at "ws_19"
    refine w_iteb (fun c => ?_) (fun c => ?_)
    · walk_at "ws_19"
      refine o_niInts ((k2.trans k4).all _ _ id hb) ?_
      refine ⟨_, rfl, ?_⟩
      have := qb H4 (Keep.refl _ _)
      rw [c, Bool.true_and] at this
      exact this
    · have := qb H4 (Keep.refl _ _)
      rw [c, Bool.false_and] at this
      exact this
  · show (tVar 3) [some (.ref t), some (.ref b), none, some (.int v)] H4 Q2
    exact w_var (by with_unfolding_all rfl) hq
  refine q L H4 (k1.trans (k2.trans k4)) ?_ hL
  cases z : H L with
  | none => rfl
  | some o => rw [(k1.trans k2).all _ _ id z] at zL; cases zL
theorem merge_mkD {f : Int → V} : ∀ {vs us : List Int}, (us ++ vs).Nodup → mergeK (mkD us f) (mkD vs f) = mkD (us ++ vs) f
  | [], us, _ => by rw [List.append_nil]; rfl
  | v :: vs, us, nd => by
    have nv : v ∉ us := fun z => (List.nodup_append.mp nd).2.2 v z v List.mem_cons_self rfl
    have e : putK (mkD us f) (.inl v) (f v) = mkD (us ++ [v]) f := by
      rw [mkD_put, if_neg nv]
      refine mkD_congr fun u _ => ?_
      by_cases z : u = v
      · rw [if_pos z, z]
      · rw [if_neg z]
    show mergeK (putK (mkD us f) (.inl v) (f v)) (mkD vs f) = _
    rw [e]
    have nd2 : (us ++ [v] ++ vs).Nodup := by rwa [List.append_assoc]
    rw [merge_mkD nd2, List.append_assoc]
    rfl
/-- the write of a value, in the heap -/
def wrAt (xs : List V) (ops : List Op) (v : Int) : V := ((wrIx ops v).bind fun n => xs[n]?).getD .non
theorem wrAt_is {xs : List V} {ops : List Op} {n : Nat} {o : Op} {u : V} (nd : (wr ops).Nodup) (h : ops[n]? = some o) (w : o.w = true) (hx : xs[n]? = some u) : wrAt xs ops o.v = u := by
  unfold wrAt
  rw [wrIx_is nd h w]
  show (xs[n]?).getD _ = _
  rw [hx]
  rfl
theorem kind_eqR (w : Bool) : decide (V.str (kindS w) = V.str "read") = !w := by cases w <;> decide +kernel
theorem pure__law_gaps {K : PySem.W.Frag} {vs : List V} {H : Hp} {Q : VK} {E : XK} (h : spGaps vs H Q E) : t__law_gaps K { nx := fun _ H' => Q .non H', rt := Q } (start ["log", "ends_here", "found", "writes", "one", "some", "value", "at", "other"] vs) H := by
  obtain ⟨t, ops, rfl, lg, few, lo, ls, q⟩ := h
  show t__law_gaps K _ [some (.ref t), none, none, none, none, none, none, none, none] H
  unfold t__law_gaps
  walk_at "ws_19"
  have few2 : ops.length ≤ 200 := by omega
  refine ⟨t, ops, rfl, lg, few2, fun d H1 f k1 zd hd he => ?_⟩
  walk_at "ws_19"
  refine k_lst (by simp) fun F H2 n2 => ?_
  walk_at "ws_19"
  have zF : H F = none := by
    cases z : H F with
    | none => rfl
    | some o => have := n2.no; rw [k1.all _ _ id z] at this; cases this
  have hd2 := n2.get hd
  have he2 := he.keep (S := NoS) n2.keep id
  have k02 := k1.trans n2.keep
  obtain ⟨xs, hx, hl, hi⟩ := id (lg.keep k02)
  have kn := lost_kn lo.1 ls
  -- the table of writes
  refine .inr (w_var (by with_unfolding_all rfl) ⟨t, rfl, ⟨xs, .inl (.inl hx)⟩, fun D hD => ?_⟩)
  refine lc_tup (xs := xs) (fun n H' => Keep NoS H2 H' ∧ ∃ ps : List Addr, H' D = some (.lst (ps.map V.ref)) ∧ ps.length ≤ n ∧ Paired (fun p kv => H' p = some (.tup [kV kv.1, kv.2])) ps (mkD (wr (ops.take n)) (wrAt xs ops)))
    ⟨Keep.new hD, [], upd_same, Nat.le_refl _, .nil⟩ (fun n H' _ h => .inl (.inl (h.1.tup _ _ hx))) ?_ ?_
  · rintro n x H3 hn ⟨k3, ps, hD3, pl, pr⟩
    have ln : n < ops.length := by
      rw [← hl]
      by_cases z : n < xs.length
      · exact z
      · rw [List.getElem?_eq_none (by omega)] at hn; cases hn
    have ho : ops[n]? = some ops[n] := List.getElem?_eq_getElem ln
    obtain ⟨u, e1, e2⟩ := hi n _ ho
    have ex := e1
    rw [hn] at e1
    cases e1
    have hu := k3.tup _ _ e2
    refine ⟨rfl, ?_⟩
    walk_at "ws_19"
    rw [kind_eq]
    refine w_iteb (fun c => ?_) (fun c => ?_)
    · walk_at "ws_19"
      refine k_tup (by simp; decide) fun T H4 n4 => ?_
      refine ⟨_, n4.get hD3, ?_, (k3.trans n4.keep).put0 hD (n4.get hD3), ps ++ [T], ?_, ?_, ?_⟩
      · rw [List.length_map]
        exact Nat.lt_of_le_of_lt (by omega : _ ≤ 1000) (by decide)
      · rw [upd_same, List.map_append]
        rfl
      · rw [List.length_append]
        simp only [List.length_cons, List.length_nil]
        omega
      · have em : mkD (wr (ops.take (n + 1))) (wrAt xs ops) = mkD (wr (ops.take n)) (wrAt xs ops) ++ [(.inl ops[n].v, wrAt xs ops ops[n].v)] := by
          rw [wr_take ho, if_pos c]
          unfold mkD
          rw [List.map_append]
          rfl
        rw [em]
        have off : ∀ (p : Addr) (ys : List V), H4 p = some (.tup ys) → (upd H4 D (.lst (ps.map V.ref ++ [V.ref T]))) p = some (.tup ys) := fun p ys e => by
          rw [upd_ne (fun z => by rw [z, n4.get hD3] at e; cases e)]
          exact e
        refine Paired.snoc (Paired.mapP pr fun p kv e => off p _ (n4.get e)) (off T _ ?_)
        rw [n4.at_, wrAt_is lo.2 ho c ex]
        rfl
    · refine ⟨k3, ps, hD3, by omega, ?_⟩
      have em : wr (ops.take (n + 1)) = wr (ops.take n) := by
        rw [wr_take ho, c]
        simp
      rw [em]
      exact pr
  rintro H3 ⟨k3, ps, hD3, pl, pr⟩
  rw [hl, List.take_length] at pr
  refine ⟨D, ps, _, rfl, .inl (.inl hD3), Paired.mapP pr fun p kv e => .inl (.inl e), fun W zW => ?_⟩
  have em : mergeK [] (mkD (wr ops) (wrAt xs ops)) = mkD (wr ops) (wrAt xs ops) := by
    exact merge_mkD (f := wrAt xs ops) (vs := wr ops) (us := []) (by simpa using lo.2)
  rw [em]
  have n4 : New H3 (upd H3 W (.dK (mkD (wr ops) (wrAt xs ops)))) W (.dK (mkD (wr ops) (wrAt xs ops))) := .mk' zW
  generalize upd H3 W (.dK (mkD (wr ops) (wrAt xs ops))) = H4 at n4
  have k24 := k3.trans n4.keep
  have hd4 := k24.all _ _ id hd2
  have he4 := he2.keep (S := NoS) k24 id
  have hw4 := n4.at_
  have hF4 := k24.all _ _ id n2.at_
  have hx4 := k24.tup _ _ hx
  have k04 := k02.trans k24
  have FD : d ≠ F := fun e => by rw [e, hF4] at hd4; cases hd4
  have FW : W ≠ F := fun e => by rw [e, hF4] at hw4; cases hw4
  walk_at "ws_19"
  refine w_forSt (w_var (by with_unfolding_all rfl) ?_)
  refine k_Ft hx4 (fun n σ H' => (∃ x4, σ = [some (.ref t), some (.ref d), some (.ref F), some (.ref W), x4, none, none, none, none]) ∧ Keep (At F) H4 H' ∧ ∃ gs : List Int, H' F = some (.lst (gs.map V.int)) ∧ gs.length ≤ n ∧ (∀ g ∈ gs, g ≤ 2000000000000000) ∧ ∀ r ∈ ops.take n, r.w = false → ∀ w ∈ ops, w.w = true → w.v = r.v → w.b - r.e ∈ gs)
    ⟨⟨_, rfl⟩, Keep.refl _ _, [], hF4, Nat.le_refl _, (fun g hg => by cases hg), fun r hr => by simp at hr⟩ (fun n σ H' _ h => h.2.1.tup _ _ hx4) ?_ ?_
  · rintro n x σ H5 hn ⟨⟨x4, rfl⟩, k5, gs, hF, gl, gb, gr⟩
    have ln : n < ops.length := by
      rw [← hl]
      by_cases z : n < xs.length
      · exact z
      · rw [List.getElem?_eq_none (by omega)] at hn; cases hn
    have ho : ops[n]? = some ops[n] := List.getElem?_eq_getElem ln
    obtain ⟨u, e1, e2⟩ := hi n _ ho
    rw [hn] at e1
    cases e1
    have hu := k5.tup _ _ (k24.tup _ _ e2)
    have hw5 := k5.all _ _ FW hw4
    have stay : (ops[n].w = true ∨ ops[n].v ∉ wr ops) → ∀ r ∈ ops.take (n + 1), r.w = false → ∀ w ∈ ops, w.w = true → w.v = r.v → w.b - r.e ∈ gs := fun hs r hr rw' w hw ww e => by
      rw [List.take_add_one, ho] at hr
      rcases List.mem_append.mp hr with h | h
      · exact gr r h rw' w hw ww e
      · have h := List.mem_singleton.mp h
        subst h
        rcases hs with hs | hs
        · rw [hs] at rw'; cases rw'
        · exact absurd (e ▸ wr_in hw ww) hs
    walk_at "ws_19"
    unfold t__law_gaps_1
    walk_at "ws_19"
    rw [kind_eqR]
    refine w_iteb (fun c => ?_) (fun c => ?_)
    · have c : ops[n].w = false := by simpa using c
      refine w_din ?_
      walk_at "ws_19"
      refine o_din hw5 ?_
      refine ⟨_, rfl, ?_⟩
      refine w_ite (fun c2 => ?_) (fun c2 => ?_)
      · obtain ⟨o, ho1, ho2⟩ := List.mem_map.mp c2
        obtain ⟨ho3, ho4⟩ := List.mem_filter.mp ho1
        obtain ⟨j, lj, ej⟩ := List.mem_iff_getElem.mp ho3
        have hj : ops[j]? = some o := by rw [List.getElem?_eq_getElem lj, ej]
        obtain ⟨uw, w1, w2⟩ := hi j _ hj
        have hat : wrAt xs ops ops[n].v = .ref uw := by rw [← ho2]; exact wrAt_is lo.2 hj ho4 w1
        have huw := k5.tup _ _ (k24.tup _ _ w2)
        walk_at "ws_19"
        refine w_dget ?_
        walk_at "ws_19"
        refine o_dget hw5 c2 ?_
        rw [hat]
        walk_at "ws_19"
        refine o_app hF (Nat.lt_of_le_of_lt (by rw [List.length_map]; omega : _ ≤ 1000) (by decide)) fun H6 p6 => ?_
        refine ⟨⟨_, rfl⟩, k5.trans (p6.keep (S := At F) rfl hF), gs ++ [o.b - ops[n].e], ?_, ?_, ?_, ?_⟩
        · rw [p6.at_, List.map_append]
          rfl
        · rw [List.length_append]
          simp only [List.length_cons, List.length_nil]
          omega
        · intro g hg
          rcases List.mem_append.mp hg with h | h
          · exact gb g h
          · have h := List.mem_singleton.mp h
            have b1 := (lo.1 o ho3)
            have b2 := (lo.1 ops[n] (List.getElem_mem ln))
            obtain ⟨_, _, _, b3, b4, b5⟩ := b1
            obtain ⟨_, _, _, b6, b7, b8⟩ := b2
            omega
        · intro r hr rw' w hw ww e
          rw [List.take_add_one, ho] at hr
          rcases List.mem_append.mp hr with h | h
          · exact List.mem_append_left _ (gr r h rw' w hw ww e)
          · have h := List.mem_singleton.mp h
            subst h
            obtain ⟨i, hiw⟩ := List.mem_iff_getElem?.mp hw
            have ij := wr_uniq lo.2 hiw ww hj ho4 (e.trans ho2.symm)
            subst ij
            rw [hiw] at hj
            cases hj
            exact List.mem_append_right _ (List.mem_singleton.mpr rfl)
      · walk_at "ws_19"
        exact ⟨⟨_, rfl⟩, k5, gs, hF, by omega, gb, stay (.inr c2)⟩
    · have c : ops[n].w = true := by simpa using c
      refine w_iteF rfl ?_
      walk_at "ws_19"
      exact ⟨⟨_, rfl⟩, k5, gs, hF, by omega, gb, stay (.inl c)⟩
  rintro σ H5 ⟨⟨x4, rfl⟩, k5, gs, hF5, gl, gb, gr⟩
  rw [hl, List.take_length] at gr
  rw [hl] at gl
  walk_at "ws_19"
  have k05 : Keep NoS H H5 := k04.trans0 k5 fun c e => .inr (by rw [e]; exact zF)
  have hd5 := k5.all _ _ FD hd4
  have he5 := he4.keep k5 FD
  have lg5 := lg.keep k05
  have vl := vals_len ops
  refine ⟨d, _, hd5, trivial, fun od => ?_⟩
  have kL : Keep (At d) H5 (upd H5 d (.frz od (.dK (mkD (vals ops) f)))) := Keep.lock hd5
  walk_at "ws_19"
  refine w_lcK (by with_unfolding_all rfl) upd_same ?_
  refine lc_zs (p := fun _ => true) walk_zs_keys (by omega) (fun H' k => k.all _ _ id upd_same) (fun v H6 Qb hv k6 qb => ?_) (fun v H6 Q2 hv hq => ?_) fun L H6 k6 zL hL => ?_
  · show tTest _ [some (.ref t), some (.ref d), some (.ref F), some (.ref W), x4, none, some (.int v), none, none] H6 Qb
    walk_at "ws_19"
    refine ⟨t, ops, rfl, lg5.keep (kL.trans (k6.mono fun _ z => z.elim)), few2, fun p H7 k7 _ hp => ?_⟩
    rw [ls] at hp
    refine o_niInts (ws := []) hp ?_
    exact ⟨_, rfl, qb H7 k7⟩
  · show (tVar 6) [some (.ref t), some (.ref d), some (.ref F), some (.ref W), x4, none, some (.int v), none, none] H6 Q2
    exact w_var (by with_unfolding_all rfl) hq
  rw [filter_true_z] at hL
  have k56 : Keep (At d) H5 H6 := kL.trans (k6.mono fun _ z => z.elim)
  walk_at "ws_19"
  refine ⟨k6.all _ _ id upd_same, ?_⟩
  have k57 := k56.unlock hd5
  have hL7 : (upd H6 d (.dK (mkD (vals ops) f))) L = some (.lst ((vals ops).map V.int)) := by
    rw [upd_ne (fun z => by rw [z, k6.all _ _ id upd_same] at hL; cases hL)]
    exact hL
  generalize upd H6 d (.dK (mkD (vals ops) f)) = H7 at k57 hL7
  have he7 := he5.keep k57 id
  have hF7 := k57.all _ _ id hF5
  have k07 := k05.trans k57
  have FL : L ≠ F := fun e => by
    have := k6.all _ _ id (show (upd H5 d (.frz od (.dK (mkD (vals ops) f)))) F = _ by rw [upd_ne FD.symm]; exact hF5)
    have z2 := zL
    rw [e, upd_ne FD.symm, hF5] at z2
    cases z2
  walk_at "ws_19"
  have asc := vals_asc ops
  have vpos : ∀ v ∈ vals ops, 0 ≤ v := fun v hv => (vals_ok lo.1 hv).1
  refine .inl (w_cons (w_var (by with_unfolding_all rfl) (w_nil ⟨L, (vals ops).map V.int, rfl, .inl (.inl hL7), ?_⟩)))
  refine for_it walk_enum (fun n σ H' => (∃ x4 x6 x7 x8, σ = [some (.ref t), some (.ref d), some (.ref F), some (.ref W), x4, some (.ref L), x6, x7, x8]) ∧ Keep (At F) H7 H' ∧ ∃ gs2 : List Int, H' F = some (.lst (gs2.map V.int)) ∧ (∀ g ∈ gs, g ∈ gs2) ∧ gs2.length ≤ 20 + 20 * n ∧ (∀ g ∈ gs2, g ≤ 2000000000000000) ∧
      ∀ (i j : Nat) (u v : Int), i < n → i < j → (vals ops)[i]? = some u → (vals ops)[j]? = some v → (if lastB ops u - fstL ops v < lastB ops v - fstL ops u then lastB ops u - fstL ops v else lastB ops v - fstL ops u) ∈ gs2)
    ⟨⟨_, _, _, _, rfl⟩, Keep.refl _ _, gs, hF7, fun g hg => hg, by omega, gb, fun i j u v h => by omega⟩ (fun n σ H' _ h => .inl (.inl (h.2.1.all _ _ FL hL7))) ?_ ?_
  · rintro n x σ H8 H9 hn ⟨⟨x4, x6, x7, x8, rfl⟩, k8, gs2, hF8, sub, gl2, gb2, gc⟩ ⟨T, y, z, rfl, hT, rfl, e1, e2⟩
    cases e1
    have e2 : ((vals ops).map V.int)[n]? = some z := e2
    rw [List.getElem?_map] at e2
    obtain ⟨u, hu, rfl⟩ := Option.map_eq_some_iff.mp e2
    have nw : New H8 (upd H8 T (.tup [.int (n : Nat), .int u])) T (.tup [.int (n : Nat), .int u]) := .mk' hT
    generalize upd H8 T (.tup [V.int (n : Nat), V.int u]) = H9 at nw
    have k9 : Keep (At F) H7 H9 := k8.trans nw.keep
    have hF9 := nw.get hF8
    rw [List.length_map] at hn
    refine w_gt2 nw.at_ ?_
    unfold t__law_gaps_3
    walk_at "ws_19"
    refine w_forSl ?_
    walk_at "ws_19"
    refine o_sll (k9.all _ _ FL hL7) fun p2 H10 n10 => ?_
    rw [cut_after] at n10
    have hF10 := n10.get hF9
    have pF : p2 ≠ F := fun e => by have := n10.no; rw [e, hF9] at this; cases this
    have k10 : Keep (At F) H7 H10 := k9.trans n10.keep
    have mu := List.mem_of_getElem? hu
    refine k_Fl n10.at_ (fun m σ H' => (∃ x8, σ = [some (.ref t), some (.ref d), some (.ref F), some (.ref W), some (.int u), some (.ref L), x6, some (.int (n : Nat)), x8]) ∧ Keep (At F) H10 H' ∧ ∃ gs3 : List Int, H' F = some (.lst (gs3.map V.int)) ∧ (∀ g ∈ gs2, g ∈ gs3) ∧ gs3.length ≤ 20 + 20 * n + m ∧ (∀ g ∈ gs3, g ≤ 2000000000000000) ∧
        ∀ (j : Nat) (v : Int), j < m → (vals ops)[n + 1 + j]? = some v → (if lastB ops u - fstL ops v < lastB ops v - fstL ops u then lastB ops u - fstL ops v else lastB ops v - fstL ops u) ∈ gs3)
      ⟨⟨_, rfl⟩, Keep.refl _ _, gs2, hF10, fun g hg => hg, by omega, gb2, fun j v h => by omega⟩ (fun m σ H' _ h => h.2.1.all _ _ pF n10.at_) ?_ ?_
    · rintro m y σ H11 hm ⟨⟨x8, rfl⟩, k11, gs3, hF11, sub3, gl3, gb3, gc3⟩
      rw [← List.map_drop, List.getElem?_map] at hm
      obtain ⟨v, hv, rfl⟩ := Option.map_eq_some_iff.mp hm
      rw [List.getElem?_drop] at hv
      have mv := List.mem_of_getElem? hv
      have uv : u < v := asc_at asc hu hv (by omega)
      have ml : n + 1 + m < (vals ops).length := (List.getElem?_eq_some_iff.mp hv).1
      have he11 := he7.keep (k10.trans k11) FD
      obtain ⟨t1, g1, h1⟩ := he11.get mu
      obtain ⟨t2, g2, h2⟩ := he11.get mv
      walk_at "ws_19"
      unfold t__law_gaps_2
      walk_at "ws_19"
      refine w_dget ?_
      walk_at "ws_19"
      refine o_dgetS g2 ?_
      walk_at "ws_19"
      refine w_dget ?_
      walk_at "ws_19"
      refine o_dgetS g1 ?_
      walk_at "ws_19"
      refine w_dget ?_
      walk_at "ws_19"
      refine o_dgetS g1 ?_
      walk_at "ws_19"
      refine w_dget ?_
      walk_at "ws_19"
      refine o_dgetS g2 ?_
      walk_at "ws_19"
      refine o_app hF11 (Nat.lt_of_le_of_lt (by rw [List.length_map]; omega : _ ≤ 1000) (by decide)) fun H12 p12 => ?_
      obtain ⟨_, _, a3, a4⟩ := vals_ok lo.1 mu
      obtain ⟨b1, b2, b3, b4⟩ := vals_ok lo.1 mv
      have u0 := vpos u mu
      have fv : fstL ops v = firstE ops v := if_pos (by omega)
      refine ⟨⟨_, rfl⟩, k11.trans (p12.keep (S := At F) rfl hF11), gs3 ++ [if lastB ops u - fstL ops v < lastB ops v - fstL ops u then lastB ops u - fstL ops v else lastB ops v - fstL ops u], ?_, ?_, ?_, ?_, ?_⟩
      · rw [p12.at_, List.map_append]
        rfl
      · exact fun g hg => List.mem_append_left _ (sub3 g hg)
      · rw [List.length_append]
        simp only [List.length_cons, List.length_nil]
        omega
      · intro g hg
        rcases List.mem_append.mp hg with h | h
        · exact gb3 g h
        · have h := List.mem_singleton.mp h
          rw [fv] at h
          split at h <;> omega
      · intro j v' hj hv'
        by_cases e : j = m
        · subst e
          rw [hv] at hv'
          cases hv'
          exact List.mem_append_right _ (List.mem_singleton.mpr rfl)
        · exact List.mem_append_left _ (gc3 j v' (by omega) hv')
    · rintro σ H11 ⟨⟨x8, rfl⟩, k11, gs3, hF11, sub3, gl3, gb3, gc3⟩
      rw [List.length_drop, List.length_map] at gl3 gc3
      refine ⟨⟨_, _, _, _, rfl⟩, k10.trans k11, gs3, hF11, fun g hg => sub3 g (sub g hg), by omega, gb3, fun i j u' v' hi hij hu' hv' => ?_⟩
      by_cases e : i = n
      · subst e
        rw [hu] at hu'
        cases hu'
        have lj : j < (vals ops).length := (List.getElem?_eq_some_iff.mp hv').1
        exact gc3 (j - (i + 1)) v' (by omega) (by rw [show i + 1 + (j - (i + 1)) = j by omega]; exact hv')
      · exact sub3 _ (gc i j u' v' (by omega) hij hu' hv')
  · rintro σ H8 ⟨⟨x4, x6, x7, x8, rfl⟩, k8, gs2, hF8, sub, gl2, gb2, gc⟩
    rw [List.length_map] at gl2 gc
    walk_at "ws_19"
    refine q F H8 gs2 (k07.trans0 k8 fun c e => .inr (by rw [e]; exact zF)) zF hF8 ⟨fun r hr rw' w hw ww e => sub _ (gr r hr rw' w hw ww e), fun u hu v hv l => ?_, gb2, by omega⟩
    obtain ⟨i, li, ei⟩ := List.mem_iff_getElem.mp hu
    obtain ⟨j, lj, ej⟩ := List.mem_iff_getElem.mp hv
    have hi' : (vals ops)[i]? = some u := by rw [List.getElem?_eq_getElem li, ei]
    have hj' : (vals ops)[j]? = some v := by rw [List.getElem?_eq_getElem lj, ej]
    have ij : i < j := by
      rcases Nat.lt_trichotomy i j with h | h | h
      · exact h
      · subst h
        rw [hi'] at hj'
        cases hj'
        omega
      · have := asc_at asc hj' hi' h
        omega
    exact gc i j u v li ij hi' hj'
theorem o_eqZs {K : PySem.W.Frag} {H : Hp} {Q : VK} {a b : Addr} {ms ns : List Int} (ea : H a = some (.lst (ms.map V.int))) (eb : H b = some (.lst (ns.map V.int))) (q : Q (.bl (decide (ms = ns))) H) : rEqA K (.ref a) (.ref b) H Q := by
  have lay : ∀ (l : List Int), ∀ d ∈ l.map PyData.int, d.canLay0 = true ∧ d.depth ≤ 60 := fun l d hd => by
    obtain ⟨n, _, rfl⟩ := List.mem_map.mp hd
    exact ⟨by simp only [PyData.canLay0], by simp only [PyData.depth]; omega⟩
  have all := fun l => canLayAll0_of fun d hd => (lay l d hd).1
  have ev : ∀ (l m : List Int), PyData.eqvAll (l.map PyData.int) (m.map PyData.int) = decide (l = m) := by
    intro l
    induction l with
    | nil => intro m; cases m <;> simp [PyData.eqvAll]
    | cons x l ih =>
      intro m
      cases m with
      | nil => simp [PyData.eqvAll]
      | cons y m =>
        simp only [List.map_cons, PyData.eqvAll, PyData.eqv, ih m]
        by_cases h1 : x = y <;> by_cases h2 : l = m <;> simp [h1, h2]
  refine .inr (.inr (.inr ⟨.list (ms.map PyData.int), .list (ns.map PyData.int), .lst (.inl (.inl ea)) (dds_dp (S := NoS) ints_data (all ms)), .lst (.inl (.inl eb)) (dds_dp (S := NoS) ints_data (all ns)), shaped_list (lay ms), shaped_list (lay ns), ?_⟩))
  simp only [PyData.eqv, ev]
  exact q
theorem pure__law_least {K : PySem.W.Frag} {vs : List V} {H : Hp} {Q : VK} {E : XK} (h : spLeastL vs H Q E) : t__law_least K { nx := fun _ H' => Q .non H', rt := Q } (start ["log"] vs) H := by
  obtain ⟨t, ops, rfl, lg, few, lo, ls, q⟩ := h
  show t__law_least K _ [some (.ref t)] H
  unfold t__law_least
  walk_at "ws_19"
  refine ⟨t, ops, rfl, lg, by omega, fun p H1 k1 zp hp => ?_⟩
  rw [ls] at hp
  walk_at "ws_19"
  refine k_lst (by simp) fun e0 H2 n2 => ?_
  refine o_eqZs (ms := []) (ns := []) (n2.get hp) n2.at_ ?_
  refine ⟨_, rfl, ?_⟩
  refine w_iteT rfl ?_
  walk_at "ws_19"
  refine k_lst (by simp; decide) fun z H3 n3 => ?_
  walk_at "ws_19"
  have k03 := (k1.trans n2.keep).trans n3.keep
  refine ⟨t, ops, rfl, lg.keep k03, few, lo, ls, fun G H4 gs k4 zG hG gp => ?_⟩
  refine o_addL (k4.all _ _ id n3.at_) hG ?_ fun A H5 n5 => ?_
  · rw [List.length_map]
    have := gp.few
    simp only [List.length_cons, List.length_nil]
    exact Nat.le_trans (by omega : _ ≤ 10001) (by decide)
  refine ⟨A, 0 :: gs, rfl, .inl (.inl n5.at_), by simp, fun m hm top => ?_⟩
  refine q m H5 ((k03.trans k4).trans n5.keep) ⟨fun r hr a w hw b c => top _ (List.mem_cons_of_mem _ (gp.rd r hr a w hw b c)), fun u hu v hv l => top _ (List.mem_cons_of_mem _ (gp.cr u hu v hv l)), top 0 List.mem_cons_self⟩ ?_
  rcases List.mem_cons.mp hm with h | h
  · omega
  · exact gp.le m h
end LB

open PySem PySem.Spec PyProof.Rows L2 LB GenW
/-! the tactic: one step of a reading; many -/
local macro_rules | `(tactic| walk_at "w1_20") => `(tactic| first
  | with_reducible refine w_seq ?_ | with_reducible refine w_asg ?_ | with_reducible refine w_drop ?_ | with_reducible refine w_ret ?_ | with_reducible refine w_next ?_
  | with_reducible refine w_ifs ?_ | with_reducible refine w_forR1 ?_ | with_reducible refine w_forR2 ?_ | with_reducible refine w_forL ?_ | with_reducible refine w_forT ?_ | with_reducible refine w_name ?_ | with_reducible refine w_sub ?_ | with_reducible refine w_par ?_
  | with_reducible refine w_var (by with_unfolding_all rfl) ?_ | with_reducible refine w_c ?_ | with_reducible refine w_op ?_ | with_reducible refine w_un ?_
  | with_reducible refine w_test ?_ | with_reducible refine w_tb ?_ | with_reducible refine w_nil ?_ | with_reducible refine w_cons ?_ | with_reducible refine w_cb ?_ | with_reducible refine w_call ?_
  | with_reducible refine w_not ?_ | with_reducible refine w_and ?_ | with_reducible refine w_or ?_ | with_reducible refine w_andV ?_ | with_reducible refine w_orV ?_ | with_reducible refine w_notV ?_
  | with_reducible refine w_ife ?_ | with_reducible refine w_chain ?_ | with_reducible refine w_bm ?_ | with_reducible refine w_sl ?_ | with_reducible refine w_part ?_ | with_reducible refine w_nopart ?_
  | with_reducible refine w_exb ?_ | with_reducible refine w_exi ?_ | with_reducible refine w_ex2 ?_ | with_reducible refine w_ex3 ?_ | with_reducible refine w_lstrg ?_ | with_reducible refine w_rg2 ?_ | with_reducible refine w_rg1 ?_ | with_reducible refine w_exij ?_ | with_reducible refine w_tup ?_ | with_reducible refine w_lst ?_
  | with_reducible refine o_add ?_ | with_reducible refine o_sub ?_ | with_reducible refine o_neg ?_ | with_reducible refine o_lt ?_ | with_reducible refine o_le ?_ | with_reducible refine o_gt ?_ | with_reducible refine o_ge ?_
  | with_reducible refine o_ixL (by assumption) (by decide) (by with_unfolding_all rfl) ?_ | with_reducible refine o_ixT (by assumption) (by decide) (by with_unfolding_all rfl) ?_
  | with_reducible refine o_mod (by first | decide | omega) ?_ | with_reducible refine o_mul (by first | decide | omega) ?_ | with_reducible refine o_fdv (by first | decide | omega) (by first | decide | omega) ?_ | with_reducible refine o_setL (by assumption) (by decide) (by simp) ?_
  | with_reducible refine oo_addi ?_ | with_reducible refine oo_sub ?_ | with_reducible refine oo_neg ?_ | with_reducible refine w_rev ?_ | with_reducible refine w_m0 ?_
  | with_reducible refine w_par3 ?_ | with_reducible refine w_tyl (by assumption) ?_
  | with_reducible refine o_abs ?_ | with_reducible refine o_eqs (by with_unfolding_all rfl) ?_ | with_reducible refine o_nes (by with_unfolding_all rfl) ?_ | with_reducible refine o_max2 ?_ | with_reducible refine o_min2 ?_ | with_reducible refine o_isiX (by assumption) ?_ | with_reducible refine o_lenl (by assumption) ?_ | with_reducible refine o_lent (by assumption) ?_ | with_reducible refine o_int1b ?_)
local macro_rules | `(tactic| walk_at "ws_20") => `(tactic| repeat (first | walk_at "w1_20" | dsimp only [List.set_cons_zero, List.set_cons_succ]))
namespace LB
/-! ### k25: the law's own table of what comes ahead -/
def spAheadL : Sp := fun vs H Q _ => ∃ (t : Addr) (ops : List Op) (tol : Int), vs = [.ref t, .int tol] ∧ LogAt H t ops ∧ ops.length ≤ 20 ∧ Fine ops tol ∧ ∀ (F : Addr) (H' : Hp) (g : Int → V), Keep NoS H H' → H' F = some (.dK (mkD (vals ops) g)) →
  (∀ v ∈ vals ops, ∃ (l : Addr) (ns : List Int), g v = .ref l ∧ H' l = some (.lst (ns.map V.int)) ∧ ∀ k, k ∈ ns ↔ k ∈ vals ops ∧ two ops tol k v) → Q (.ref F) H'
theorem spAheadL_arity {vs : List V} {H : Hp} {Q : VK} {E : XK} (h : spAheadL vs H Q E) : vs.length = 2 := by obtain ⟨_, _, _, rfl, _⟩ := h; rfl
/-- what is found for v so far: nothing wrong, all that is right ahead -/
structure Fnd (ops : List Op) (tol v : Int) (ns : List Int) : Prop where
  ok : ∀ u ∈ ns, u ∈ vals ops ∧ two ops tol u v
  one : ∀ u ∈ vals ops, ahd ops tol u v → u ∈ ns
  few : ns.length ≤ 20
def Full (ops : List Op) (tol v : Int) (ns : List Int) : Prop := ∀ u ∈ vals ops, two ops tol u v → u ∈ ns
theorem nodup_len : ∀ {ns vs : List Int}, ns.Nodup → (∀ x ∈ ns, x ∈ vs) → ns.length ≤ vs.length
  | [], _, _, _ => Nat.zero_le _
  | n :: ns, vs, nd, h => by
    obtain ⟨n1, n2⟩ := List.nodup_cons.mp nd
    have hn := h n List.mem_cons_self
    have := nodup_len (ns := ns) (vs := vs.erase n) n2 fun x hx => (List.mem_erase_of_ne (show x ≠ n from fun e => n1 (by rw [← e]; exact hx))).mpr (h x (List.mem_cons_of_mem _ hx))
    rw [List.length_erase_of_mem hn] at this
    have := List.length_pos_of_mem hn
    simp only [List.length_cons]
    omega
def t__law_ahead_1 (K : PySem.W.Frag) : TS :=
  (sDPut (tVar 3) (tVar 4) (tLc (iKeys (tVar 2)) (gName 5) (tAnd (tTest (tOp (rNeA K) (tVar 5) (tVar 4))) (tTest (tOp rLtI (tOp (rAddA K) (tOp (rIx K) (tDGet (tVar 2) (tVar 5)) (tC (V.int 0))) (tVar 1)) (tOp (rIx K) (tDGet (tVar 2) (tVar 4)) (tC (V.int 1)))))) (tVar 5) [5]))

def t__law_ahead_2 (K : PySem.W.Frag) : TS :=
  (tDrop (tBM K "list" rExtendA (tVar 7) (tCons (tDGet (tVar 3) (tVar 8)) tNil)))

def t__law_ahead_3 (K : PySem.W.Frag) : TS :=
  (tSeq (tAsg (tCB (rListOf K) (tCons (tDGet (tVar 3) (tVar 4)) tNil)) (gName 7))
    (tSeq (tFor (iSeq K (tDGet (tVar 3) (tVar 4))) (gName 8)
    (t__law_ahead_2 K))
    (sDPut (tVar 3) (tVar 4) (tSortL K (tVar 7)))))

def t__law_ahead_4 (K : PySem.W.Frag) : TS :=
  (tLock (tFor (iKeys (tVar 2)) (gName 4)
    (t__law_ahead_3 K)))

def t__law_ahead (K : PySem.W.Frag) : TS :=
  (tSeq (tAsg (tTup (tCons (tCall spEndsL [] E0 (tCons (tVar 0) tNil)) (tCons tDNewK tNil))) (gTup K 2 (gCons (gName 2) (gCons (gName 3) gNil))))
    (tSeq (tLock (tFor (iKeys (tVar 2)) (gName 4)
    (t__law_ahead_1 K)))
    (tSeq (tFor (iRng1 (tCons (tC (V.int 5)) tNil)) (gName 6)
    (t__law_ahead_4 K))
    (tRet (tVar 3)))))

theorem dueL_is {ops : List Op} {tol u v : Int} : dueL ops tol u v = true ↔ ahd ops tol u v := by
  unfold dueL ahd
  by_cases e : u = v
  · rw [if_pos e]; simp [e]
  · rw [if_neg e]; simp [e]
theorem w_forK {d : Addr} {o : Obj} {ns : List Int} {f : Int → V} {s : Nat} {g : TG} {tb : TS} {D : Ends} {σ : LB.St} {H : Hp} (es : σ[s]? = some (some (.ref d))) (Pv : Nat → LB.St → Hp → Prop) (h0 : Pv 0 σ H) (hG : ∀ i σ H, i ≤ ns.length → Pv i σ H → H d = some (.frz o (.dK (mkD ns f))))
    (hs : ∀ i v σ H, ns[i]? = some v → Pv i σ H → g (.int v) σ H fun σ2 H2 => tb { D with nx := Pv (i + 1), ct := Pv (i + 1), bk := D.nx } σ2 H2) (hd : ∀ σ H, Pv ns.length σ H → D.nx σ H) : tFor (iKeys (tVar s)) g tb D σ H := by
  have h := for_it (D := D) (g := g) (tb := tb) (walk_zs_keys (d := d) (o := o) (ns := ns) (f := f)) Pv h0 hG (fun i x σ H H' hi p y => by
    obtain ⟨rfl, v, ev, rfl⟩ := y
    exact hs i v σ H' ev p) hd
  unfold tFor iKeys
  exact w_var es ⟨d, o, rfl, .inl ⟨_, hG 0 σ H (Nat.zero_le _) h0, h⟩⟩
/-- the table at F -/
def TabF (ops : List Op) (P : Int → List Int → Prop) (F : Addr) (H' : Hp) : Prop := ∃ g : Int → V, H' F = some (.dK (mkD (vals ops) g)) ∧ ∀ v ∈ vals ops, ∃ (l : Addr) (ns : List Int), g v = .ref l ∧ H' l = some (.lst (ns.map V.int)) ∧ P v ns
theorem pure__law_ahead {K : PySem.W.Frag} {vs : List V} {H : Hp} {Q : VK} {E : XK} (h : spAheadL vs H Q E) : t__law_ahead K { nx := fun _ H' => Q .non H', rt := Q } (start ["log", "tolerance", "ends_here", "found", "value", "one", "turn", "more", "near"] vs) H := by
  obtain ⟨t, ops, tol, rfl, lg, few, fi, q⟩ := h
  show t__law_ahead K _ [some (.ref t), some (.int tol), none, none, none, none, none, none, none] H
  unfold t__law_ahead
  walk_at "ws_20"
  refine ⟨t, ops, rfl, lg, by omega, fun d H1 f k1 zd hd he => ?_⟩
  walk_at "ws_20"
  refine w_dnew fun F H2 n2 => ?_
  walk_at "ws_20"
  refine k_tup (by simp; decide) fun T H3 n3 => ?_
  walk_at "ws_20"
  refine w_gt2 n3.at_ ?_
  have nd : (vals ops).Nodup := (vals_asc ops).imp fun h => by omega
  have vl : (vals ops).length ≤ 20 := Nat.le_trans (vals_len ops) few
  have zF1 : H1 F = none := n2.no
  have k13 : Keep NoS H1 H3 := n2.keep.trans n3.keep
  have hd3 := k13.all _ _ id hd
  have he3 := he.keep (S := NoS) k13 id
  have hF3 := n3.get n2.at_
  have FD : F ≠ d := fun e => by rw [e, hd] at zF1; cases zF1
  -- what is right ahead
  walk_at "ws_20"
  refine ⟨d, _, hd3, trivial, fun od => ?_⟩
  have kL : Keep (At d) H3 (upd H3 d (.frz od (.dK (mkD (vals ops) f)))) := Keep.lock hd3
  refine w_forK (d := d) (o := od) (f := f) (by with_unfolding_all rfl) (fun n σ H' => (∃ x4 x5, σ = [some (.ref t), some (.int tol), some (.ref d), some (.ref F), x4, x5, none, none, none]) ∧ Keep (At d) H1 H' ∧ H' d = some (.frz od (.dK (mkD (vals ops) f))) ∧ ∃ g : Int → V, H' F = some (.dK (mkD ((vals ops).take n) g)) ∧ ∀ v ∈ (vals ops).take n, ∃ (l : Addr) (ns : List Int), g v = .ref l ∧ H' l = some (.lst (ns.map V.int)) ∧ Fnd ops tol v ns)
    ⟨⟨_, _, rfl⟩, (k13.mono fun _ z => z.elim).trans kL, upd_same, fun _ => .non, by rw [upd_ne FD]; exact hF3, fun v hv => by simp at hv⟩ (fun n σ H' _ h => h.2.2.1) ?_ ?_
  · rintro n v σ H5 ev ⟨⟨x4, x5, rfl⟩, k4, f4, g, hg, hv⟩
    have mv := List.mem_of_getElem? ev
    walk_at "ws_20"
    unfold t__law_ahead_1
    refine w_dput ?_
    refine w_lcK (by with_unfolding_all rfl) f4 ?_
    have ends4 : ∀ H6, Keep NoS H5 H6 → EndsAt H6 d ops := fun H6 k6 => by
      obtain ⟨f', r', e'⟩ := he
      have h6 := k6.all _ _ id f4
      refine ⟨f, .inr ⟨od, h6⟩, fun v hv => ?_⟩
      have ef : f' v = f v := by
        rcases r' with r' | ⟨o, r'⟩
        · have := hd.symm.trans r'
          injection this with this
          injection this with this
          have a1 := mkD_val (f := f) (v := v) (vs := vals ops)
          rw [this, mkD_val, if_pos hv, if_pos hv] at a1
          exact Option.some.inj a1
        · have := hd.symm.trans r'
          injection this with this
          cases this
      obtain ⟨u, e1, e2⟩ := e' v hv
      exact ⟨u, ef ▸ e1, k6.tup _ _ (k4.tup _ _ e2)⟩
    refine lc_zs (p := fun u => dueL ops tol u v) walk_zs_keys (by omega) (fun H' k => k.all _ _ id f4) (fun u H6 Qb hu k6 qb => ?_) (fun u H6 Q2 hu hq => ?_) fun L H6 k6 zL hL => ?_
    · show tAnd _ _ [some (.ref t), some (.int tol), some (.ref d), some (.ref F), some (.int v), some (.int u), none, none, none] H6 Qb
      obtain ⟨t1, g1, h1⟩ := (ends4 H6 k6).get hu
      obtain ⟨t2, g2, h2⟩ := (ends4 H6 k6).get mv
      walk_at "ws_20"
      have e0 : (!decide (V.int u = V.int v)) = !decide (u = v) := by simp
      rw [e0]
      have qd := qb H6 (Keep.refl _ _)
      unfold dueL at qd
      refine w_iteb (fun c => ?_) (fun c => ?_)
      · have ne : ¬ u = v := by simpa using c
        rw [if_neg ne] at qd
        walk_at "ws_20"
        refine w_dget ?_
        walk_at "ws_20"
        refine o_dgetS g1 ?_
        walk_at "ws_20"
        refine w_dget ?_
        walk_at "ws_20"
        refine o_dgetS g2 ?_
        walk_at "ws_20"
        exact qd
      · have e : u = v := by simpa using c
        rw [if_pos e] at qd
        exact qd
    · show (tVar 5) [some (.ref t), some (.int tol), some (.ref d), some (.ref F), some (.int v), some (.int u), none, none, none] H6 Q2
      exact w_var (by with_unfolding_all rfl) hq
    walk_at "ws_20"
    have hg6 := k6.all _ _ id hg
    have LF : L ≠ F := fun e => by rw [e, hg] at zL; cases zL
    refine o_dput hg6 (by rw [List.length_take]; omega) ?_
    rw [mkD_put, if_neg (nodup_take nd ev), ← take_z ev]
    have k16 : Keep (At d) H1 H6 := k4.trans (k6.mono fun _ z => z.elim)
    refine ⟨⟨_, _, rfl⟩, k16.putO (o := .lst []) zF1, by rw [upd_ne FD.symm]; exact k6.all _ _ id f4, fun u => if u = v then .ref L else g u, upd_same, fun u hu => ?_⟩
    by_cases z : u = v
    · subst z
      refine ⟨L, _, if_pos rfl, by rw [upd_ne LF]; exact hL, fun w hw => ?_, fun w hw a => List.mem_filter.mpr ⟨hw, dueL_is.mpr a⟩, Nat.le_trans (List.length_filter_le _ _) vl⟩
      obtain ⟨h1, h2⟩ := List.mem_filter.mp hw
      exact ⟨h1, .inl (dueL_is.mp h2)⟩
    · rw [take_z ev] at hu
      have hu : u ∈ (vals ops).take n := by
        rcases List.mem_append.mp hu with h | h
        · exact h
        · exact absurd (List.mem_singleton.mp h) z
      obtain ⟨l, ns, e1, e2, e3⟩ := hv u hu
      have lF : l ≠ F := fun e => by rw [e, hg] at e2; cases e2
      exact ⟨l, ns, by show (if u = v then _ else _) = _; rw [if_neg z]; exact e1, by rw [upd_ne lF]; exact k6.all _ _ id e2, e3⟩
  rintro σ H4 ⟨⟨x4, x5, rfl⟩, k4, f4, g, hg, hv⟩
  rw [List.take_length] at hg hv
  refine ⟨f4, ?_⟩
  have u4 := k4.unlock hd
  have tb : TabF ops (Fnd ops tol) F (upd H4 d (.dK (mkD (vals ops) f))) := ⟨g, by rw [upd_ne FD]; exact hg, fun v hvv => by
    obtain ⟨l, ns, e1, e2, e3⟩ := hv v hvv
    exact ⟨l, ns, e1, by rw [upd_ne (fun z => by rw [z, f4] at e2; cases e2)]; exact e2, e3⟩⟩
  generalize upd H4 d (.dK (mkD (vals ops) f)) = H5 at u4 tb
  walk_at "ws_20"
  refine k_R1 (by omega) (by omega) (fun i σ H' => (∃ x4 x5 x6 x7 x8, σ = [some (.ref t), some (.int tol), some (.ref d), some (.ref F), x4, x5, x6, x7, x8]) ∧ Keep NoS H1 H' ∧ TabF ops (fun v ns => Fnd ops tol v ns ∧ (0 < i → Full ops tol v ns)) F H') ?_ ?_ ?_
  · obtain ⟨g, a1, a2⟩ := tb
    refine ⟨⟨_, _, _, _, _, rfl⟩, u4, g, a1, fun v hv => ?_⟩
    obtain ⟨l, ns, e1, e2, e3⟩ := a2 v hv
    exact ⟨l, ns, e1, e2, e3, fun h => by omega⟩
  · rintro i σ H6 hi ⟨⟨x4, x5, x6, x7, x8, rfl⟩, k6, tb6⟩
    walk_at "ws_20"
    unfold t__law_ahead_4
    have hd6 := k6.all _ _ id hd
    refine ⟨d, _, hd6, trivial, fun od2 => ?_⟩
    have kL6 : Keep (At d) H6 (upd H6 d (.frz od2 (.dK (mkD (vals ops) f)))) := Keep.lock hd6
    have k16 : Keep (At d) H1 (upd H6 d (.frz od2 (.dK (mkD (vals ops) f)))) := (k6.mono fun _ z => z.elim).trans kL6
    refine w_forK (d := d) (o := od2) (f := f) (by with_unfolding_all rfl) (fun n σ H' => (∃ x4 x7 x8, σ = [some (.ref t), some (.int tol), some (.ref d), some (.ref F), x4, x5, some (.int (0 + i)), x7, x8]) ∧ Keep (At d) H1 H' ∧ H' d = some (.frz od2 (.dK (mkD (vals ops) f))) ∧ TabF ops (fun v ns => Fnd ops tol v ns ∧ (v ∈ (vals ops).take n → Full ops tol v ns)) F H')
      ⟨⟨_, _, _, rfl⟩, k16, upd_same, ?_⟩ (fun n σ H' _ h => h.2.2.1) ?_ ?_
    · obtain ⟨g, a1, a2⟩ := tb6
      refine ⟨g, by rw [upd_ne FD]; exact a1, fun v hv => ?_⟩
      obtain ⟨l, ns, e1, e2, e3, _⟩ := a2 v hv
      exact ⟨l, ns, e1, by rw [upd_ne (fun z => by rw [z, hd6] at e2; cases e2)]; exact e2, e3, fun h => by simp at h⟩
    · rintro n v σ H7 ev ⟨⟨x4, x7, x8, rfl⟩, k7, f7, g, hg, tv⟩
      have mv := List.mem_of_getElem? ev
      obtain ⟨l, ns, e1, e2, fn, _⟩ := tv v mv
      walk_at "ws_20"
      unfold t__law_ahead_3
      walk_at "ws_20"
      refine w_dget ?_
      walk_at "ws_20"
      refine o_dget hg mv ?_
      rw [e1]
      walk_at "ws_20"
      refine o_listof (.inl (.inl (.inl e2))) fun M H9 n9 => ?_
      walk_at "ws_20"
      have hg9 := n9.get hg
      have e29 := n9.get e2
      have MF : M ≠ F := fun e => by have := n9.no; rw [e, hg] at this; cases this
      have Ml : M ≠ l := fun e => by have := n9.no; rw [e, e2] at this; cases this
      have Md : M ≠ d := fun e => by have := n9.no; rw [e, f7] at this; cases this
      refine w_forSl ?_
      refine w_dget ?_
      walk_at "ws_20"
      refine o_dget hg9 mv ?_
      rw [e1]
      refine k_Fl e29 (fun m σ H' => (∃ x8, σ = [some (.ref t), some (.int tol), some (.ref d), some (.ref F), some (.int v), x5, some (.int (0 + i)), some (.ref M), x8]) ∧ Keep (At M) H9 H' ∧ ∃ ms : List Int, H' M = some (.lst (ms.map V.int)) ∧ ms.length ≤ 20 + 20 * m ∧ (∀ u ∈ ns, u ∈ ms) ∧ (∀ u ∈ ms, u ∈ vals ops ∧ two ops tol u v) ∧ ∀ b ∈ ns.take m, ∀ u ∈ vals ops, ahd ops tol u b → u ∈ ms)
        ⟨⟨_, rfl⟩, Keep.refl _ _, ns, n9.at_, by have := fn.few; omega, fun u hu => hu, fn.ok, fun b hb => by simp at hb⟩ (fun m σ H' _ h => h.2.1.all _ _ Ml.symm e29) ?_ ?_
      · rintro m y σ H10 hm ⟨⟨x8, rfl⟩, k10, ms, hM, ml, inc, sound, comp⟩
        rw [List.getElem?_map] at hm
        obtain ⟨b, eb, rfl⟩ := Option.map_eq_some_iff.mp hm
        obtain ⟨hb, tbv⟩ := fn.ok b (List.mem_of_getElem? eb)
        obtain ⟨lb, nsb, c1, c2, fb, _⟩ := tv b hb
        have c29 := n9.get c2
        have MlB : lb ≠ M := fun e => by have := n9.no; rw [← e, c2] at this; cases this
        have mn : m < ns.length := (List.getElem?_eq_some_iff.mp eb).1
        walk_at "ws_20"
        unfold t__law_ahead_2
        walk_at "ws_20"
        refine w_dget ?_
        walk_at "ws_20"
        refine o_dget (k10.all _ _ MF.symm hg9) hb ?_
        rw [c1]
        walk_at "ws_20"
        have := fb.few
        have := fn.few
        refine o_extend hM (k10.all _ _ MlB c29) (Nat.le_trans (by rw [List.length_map, List.length_map]; omega : _ ≤ 1000) (by decide)) fun H11 p11 => ?_
        refine ⟨⟨_, rfl⟩, k10.trans (p11.keep (S := At M) rfl hM), ms ++ nsb, ?_, ?_, fun u hu => List.mem_append_left _ (inc u hu), fun u hu => ?_, fun c hc u hu a => ?_⟩
        · rw [p11.at_, List.map_append]
        · rw [List.length_append]
          omega
        · rcases List.mem_append.mp hu with h | h
          · exact sound u h
          · obtain ⟨h1, h2⟩ := fb.ok u h
            exact ⟨h1, two_trans fi.nc h1 hb mv h2 tbv⟩
        · rw [take_z eb] at hc
          rcases List.mem_append.mp hc with h | h
          · exact List.mem_append_left _ (comp c h u hu a)
          · rw [List.mem_singleton.mp h] at a
            exact List.mem_append_right _ (fb.one u hu a)
      · rintro σ H10 ⟨⟨x8, rfl⟩, k10, ms, hM, ml, inc, sound, comp⟩
        rw [List.length_map] at ml
        rw [List.length_map, List.take_length] at comp
        have := fn.few
        walk_at "ws_20"
        refine w_dput ?_
        refine w_var (by with_unfolding_all rfl) ⟨M, ms, rfl, .inl (.inl hM), by omega, fun zs p H11 asc mem nw => ?_⟩
        walk_at "ws_20"
        have hg10 := k10.all _ _ MF.symm hg9
        have pM : H10 p = none := nw.no
        have pF : p ≠ F := fun e => by rw [e, hg10] at pM; cases pM
        have hg11 := nw.keep.all _ _ id hg10
        refine o_dput hg11 (by omega) ?_
        rw [mkD_put, if_pos mv]
        have nds : zs.Nodup := asc.imp fun h => by omega
        have zin : ∀ u ∈ zs, u ∈ vals ops ∧ two ops tol u v := fun u hu => sound u ((mem u).mp hu)
        have zfull : Full ops tol v zs := fun u hu tw => (mem u).mpr (by
          rcases tw with a | ⟨b, hb, a1, a2⟩
          · exact inc u (fn.one u hu a)
          · exact comp b (fn.one b hb a2) u hu a1)
        have k9x : Keep (At d) H1 H9 := k7.trans n9.keep
        have f10 := k10.all _ _ Md.symm (n9.get f7)
        have zM : H7 M = none := n9.no
        have zM1 : H1 M = none ∨ M = d := by
          cases z : H1 M with
          | none => exact .inl rfl
          | some o =>
            by_cases e : M = d
            · exact .inr e
            · rw [k7.all _ _ e z] at zM; cases zM
        have k1A : Keep (At d) H1 H10 := k9x.trans0 k10 fun c e => by
          rw [e]
          rcases zM1 with h | h
          · exact .inr h
          · exact .inl h
        have k1B : Keep (At d) H1 H11 := k1A.trans (nw.keep.mono fun _ z => z.elim)
        refine ⟨⟨_, _, _, rfl⟩, k1B.putO (o := .lst []) zF1, by rw [upd_ne FD.symm]; exact nw.keep.all _ _ id f10, fun u => if u = v then .ref p else g u, upd_same, fun u hu => ?_⟩
        by_cases z : u = v
        · subst z
          refine ⟨p, zs, if_pos rfl, by rw [upd_ne pF]; exact nw.at_, ⟨zin, fun w hw a => zfull w hw (.inl a), ?_⟩, fun _ => zfull⟩
          exact Nat.le_trans (nodup_len nds fun x hx => (zin x hx).1) vl
        · obtain ⟨lu, nu, c1, c2, c3, c4⟩ := tv u hu
          have luM : lu ≠ M := fun e => by rw [← e, c2] at zM; cases zM
          have luF : lu ≠ F := fun e => by rw [e, hg] at c2; cases c2
          refine ⟨lu, nu, by show (if u = v then _ else _) = _; rw [if_neg z]; exact c1, by rw [upd_ne luF]; exact nw.keep.all _ _ id (k10.all _ _ luM (n9.get c2)), c3, fun h => c4 ?_⟩
          rw [take_z ev] at h
          rcases List.mem_append.mp h with h | h
          · exact h
          · exact absurd (List.mem_singleton.mp h) z
    · rintro σ H7 ⟨⟨x4, x7, x8, rfl⟩, k7, f7, g, hg, tv⟩
      rw [List.take_length] at tv
      refine ⟨f7, ?_⟩
      refine ⟨⟨_, _, _, _, _, rfl⟩, k7.unlock hd, g, by rw [upd_ne FD]; exact hg, fun v hv => ?_⟩
      obtain ⟨l, ns, e1, e2, e3, e4⟩ := tv v hv
      exact ⟨l, ns, e1, by rw [upd_ne (fun z => by rw [z, f7] at e2; cases e2)]; exact e2, e3, fun _ => e4 hv⟩
  · rintro σ H6 ⟨⟨x4, x5, x6, x7, x8, rfl⟩, k6, g, hg, tv⟩
    walk_at "ws_20"
    refine q F H6 g (k1.trans k6) hg fun v hv => ?_
    obtain ⟨l, ns, e1, e2, e3, e4⟩ := tv v hv
    exact ⟨l, ns, e1, e2, fun k => ⟨e3.ok k, fun ⟨h1, h2⟩ => e4 (by decide) k h1 h2⟩⟩
end LB

open PySem PySem.Spec PyProof.Rows L2 LB GenW
/-! the tactic: one step of a reading; many -/
local macro_rules | `(tactic| walk_at "w1_21") => `(tactic| first
  | with_reducible refine w_seq ?_ | with_reducible refine w_asg ?_ | with_reducible refine w_drop ?_ | with_reducible refine w_ret ?_ | with_reducible refine w_next ?_
  | with_reducible refine w_ifs ?_ | with_reducible refine w_forR1 ?_ | with_reducible refine w_forR2 ?_ | with_reducible refine w_forL ?_ | with_reducible refine w_forT ?_ | with_reducible refine w_name ?_ | with_reducible refine w_sub ?_ | with_reducible refine w_par ?_
  | with_reducible refine w_var (by with_unfolding_all rfl) ?_ | with_reducible refine w_c ?_ | with_reducible refine w_op ?_ | with_reducible refine w_un ?_
  | with_reducible refine w_test ?_ | with_reducible refine w_tb ?_ | with_reducible refine w_nil ?_ | with_reducible refine w_cons ?_ | with_reducible refine w_cb ?_ | with_reducible refine w_call ?_
  | with_reducible refine w_not ?_ | with_reducible refine w_and ?_ | with_reducible refine w_or ?_ | with_reducible refine w_andV ?_ | with_reducible refine w_orV ?_ | with_reducible refine w_notV ?_
  | with_reducible refine w_ife ?_ | with_reducible refine w_chain ?_ | with_reducible refine w_bm ?_ | with_reducible refine w_sl ?_ | with_reducible refine w_part ?_ | with_reducible refine w_nopart ?_
  | with_reducible refine w_exb ?_ | with_reducible refine w_exi ?_ | with_reducible refine w_ex2 ?_ | with_reducible refine w_ex3 ?_ | with_reducible refine w_lstrg ?_ | with_reducible refine w_rg2 ?_ | with_reducible refine w_rg1 ?_ | with_reducible refine w_exij ?_ | with_reducible refine w_tup ?_ | with_reducible refine w_lst ?_
  | with_reducible refine o_add ?_ | with_reducible refine o_sub ?_ | with_reducible refine o_neg ?_ | with_reducible refine o_lt ?_ | with_reducible refine o_le ?_ | with_reducible refine o_gt ?_ | with_reducible refine o_ge ?_
  | with_reducible refine o_ixL (by assumption) (by decide) (by with_unfolding_all rfl) ?_ | with_reducible refine o_ixT (by assumption) (by decide) (by with_unfolding_all rfl) ?_
  | with_reducible refine o_mod (by first | decide | omega) ?_ | with_reducible refine o_mul (by first | decide | omega) ?_ | with_reducible refine o_fdv (by first | decide | omega) (by first | decide | omega) ?_ | with_reducible refine o_setL (by assumption) (by decide) (by simp) ?_
  | with_reducible refine oo_addi ?_ | with_reducible refine oo_sub ?_ | with_reducible refine oo_neg ?_ | with_reducible refine w_rev ?_ | with_reducible refine w_m0 ?_
  | with_reducible refine w_par3 ?_ | with_reducible refine w_tyl (by assumption) ?_
  | with_reducible refine o_abs ?_ | with_reducible refine o_eqs (by with_unfolding_all rfl) ?_ | with_reducible refine o_nes (by with_unfolding_all rfl) ?_ | with_reducible refine o_max2 ?_ | with_reducible refine o_min2 ?_ | with_reducible refine o_isiX (by assumption) ?_ | with_reducible refine o_lenl (by assumption) ?_ | with_reducible refine o_lent (by assumption) ?_ | with_reducible refine o_int1b ?_)
local macro_rules | `(tactic| walk_at "ws_21") => `(tactic| repeat (first | walk_at "w1_21" | dsimp only [List.set_cons_zero, List.set_cons_succ]))
namespace LB
/-! ### k25: a log and a tolerance drawn, the law's right -/
def spFine25 : Sp := fun vs H Q _ => ∃ (p : Addr) (N : Nat), vs = [.ref p, .int 12] ∧ Pot H p N ∧ 300 ≤ N ∧ ∀ (H' : Hp) (T t : Addr) (ops : List Op) (tol : Int), Keep (At p) H H' → Pot H' p (N - 300) → H' T = some (.tup [.ref t, .int tol]) → LogAt H' t ops → ops.length ≤ 20 → Fine ops tol → Q (.ref T) H'
theorem spFine25_arity {vs : List V} {H : Hp} {Q : VK} {E : XK} (h : spFine25 vs H Q E) : vs.length = 2 := by obtain ⟨_, _, rfl, _⟩ := h; rfl
def spRight25 : Sp := fun vs H Q _ => ∃ (p : Addr) (N : Nat), vs = [.ref p] ∧ Pot H p N ∧ 400 ≤ N ∧ ∀ H', Keep (At p) H H' → Pot H' p (N - 400) → Q (.bl true) H'
theorem spRight25_arity {vs : List V} {H : Hp} {Q : VK} {E : XK} (h : spRight25 vs H Q E) : vs.length = 1 := by obtain ⟨_, _, rfl, _⟩ := h; rfl
def spLaw25 (K : PySem.W.Frag) : Sp := spLaw K
theorem spLaw25_arity {K : PySem.W.Frag} {vs : List V} {H : Hp} {Q : VK} {E : XK} (h : spLaw25 K vs H Q E) : vs.length = 1 := spLaw_arity h
def t25__law_fine_1 (K : PySem.W.Frag) : TS :=
  (tSeq (tAsg (tCall spWild [] E0 (tCons (tVar 0) (tCons (tVar 1) (tCons (tCall (spAny K) [] E0 (tCons (tVar 0) (tCons (tLst (tCons (tC (V.int 6)) (tCons (tC (V.int 30)) (tCons (tC (V.int 200)) tNil)))) tNil))) tNil)))) (gName 4))
    (tAsg (tIf (tTest (tOp (rEqA K) (tCall spLost [] E0 (tCons (tVar 4) tNil)) (tLst tNil))) (tVar 4) (tVar 3)) (gName 3)))

def t25__law_fine_2 (K : PySem.W.Frag) : TS :=
  (tSeq (tAsg (tCall spLeastL [] E0 (tCons (tVar 3) tNil)) (gName 5))
    (tRet (tTup (tCons (tVar 3) (tCons (tCall (spAny K) [] E0 (tCons (tVar 0) (tCons (tLst (tCons (tVar 5) (tCons (tVar 5) (tCons (tOp (rAddA K) (tVar 5) (tC (V.int 1))) (tCons (tOp (rAddA K) (tVar 5) (tCall spDraw [] E0 (tCons (tVar 0) (tCons (tC (V.int 20)) tNil)))) (tCons (tOp rPowI (tC (V.int 10)) (tC (V.int 16))) tNil)))))) tNil))) tNil)))))

def t25__law_fine (K : PySem.W.Frag) : TS :=
  (tSeq (tAsg (tCall spDraw [] E0 (tCons (tVar 0) (tCons (tC (V.int 3)) tNil))) (gName 2))
    (tSeq (tAsg (tCall spTrue25 [] E0 (tCons (tVar 0) (tCons (tCall spDraw [] E0 (tCons (tVar 0) (tCons (tOp (rAddA K) (tVar 1) (tC (V.int 1))) tNil))) (tCons (tCall spDraw [] E0 (tCons (tVar 0) (tCons (tC (V.int 8)) tNil))) (tCons (tOp (rAddA K) (tC (V.int 1)) (tCall spDraw [] E0 (tCons (tVar 0) (tCons (tC (V.int 9)) tNil)))) tNil))))) (gName 3))
    (tSeq (tIfS (tTest (tOp (rEqA K) (tVar 2) (tC (V.int 0))))
    (t25__law_fine_1 K) tNext)
    (t25__law_fine_2 K))))

def t25__law_right_1 (K : PySem.W.Frag) : TS :=
  (tIfS (tTest (tOp (rNeA K) (tCB rRepr (tCons (tCall spMust [] E0 (tCons (tVar 1) (tCons (tVar 2) (tCons (tVar 5) (tCons (tVar 6) tNil))))) tNil)) (tCB rRepr (tCons (tOp (rInA K) (tVar 5) (tDGet (tVar 3) (tVar 6))) tNil))))
    (tRet (tC (V.bl false))) tNext)

def t25__law_right_2 (K : PySem.W.Frag) : TS :=
  (tFor (iKeys (tVar 3)) (gName 6)
    (t25__law_right_1 K))

def t25__law_right (K : PySem.W.Frag) : TS :=
  (tSeq (tAsg (tCall spFine25 [] E0 (tCons (tVar 0) (tCons (tC (V.int 12)) tNil))) (gTup K 2 (gCons (gName 1) (gCons (gName 2) gNil))))
    (tSeq (tAsg (tTup (tCons (tCall spAheadL [] E0 (tCons (tVar 1) (tCons (tVar 2) tNil))) (tCons (tCB rRepr (tCons (tVar 1) tNil)) tNil))) (gTup K 2 (gCons (gName 3) (gCons (gName 4) gNil))))
    (tSeq (tLock (tFor (iKeys (tVar 3)) (gName 5)
    (t25__law_right_2 K)))
    (tRet (tAndV (tOp (rEqA K) (tCB rRepr (tCons (tVar 1) tNil)) (tVar 4)) (tNotV (tCB (rAny K) (tCons (tLockE (tLc (iKeys (tVar 3)) (gName 5) tYes (tOp (rInA K) (tVar 5) (tDGet (tVar 3) (tVar 5))) [5])) tNil))))))))

def t25_law_1 (K : PySem.W.Frag) : TS :=
  (tSeq (tAsg (tCall (spPot K) [] E0 (tCons (tVar 0) (tCons (tVar 1) tNil))) (gName 2))
    (tIfS (tNot (tB (tCB (rAll K) (tCons (tLc (iRng1 (tCons (tC (V.int 6)) tNil)) (gName 3) tYes (tCall spRight25 [] E0 (tCons (tVar 2) tNil)) [3]) tNil))))
    (tRet (tC (V.bl false))) tNext))

def t25_law (K : PySem.W.Frag) : TS :=
  (tSeq (tFor (iRng1 (tCons (tCB rMax2 (tCons (tC (V.int 1)) (tCons (tCB rMin2 (tCons (tC (V.int 3)) (tCons (tCB (rLen K) (tCons (tVar 0) tNil)) tNil))) tNil))) tNil)) (gName 1)
    (t25_law_1 K))
    (tSeq (tAsg (tTup (tCons (tTup (tCons (tC (V.str "write")) (tCons (tC (V.int 1)) (tCons (tC (V.int 0)) (tCons (tC (V.int 10)) tNil))))) (tCons (tTup (tCons (tC (V.str "write")) (tCons (tC (V.int 2)) (tCons (tC (V.int 0)) (tCons (tC (V.int 5)) tNil))))) (tCons (tTup (tCons (tC (V.str "read")) (tCons (tC (V.int 2)) (tCons (tC (V.int 20)) (tCons (tC (V.int 21)) tNil))))) (tCons (tTup (tCons (tC (V.str "write")) (tCons (tC (V.int 3)) (tCons (tC (V.int 8)) (tCons (tC (V.int 30)) tNil))))) tNil))))) (gName 4))
    (tSeq (tAsg (tLc (iTup K (tTup (tCons (tC (V.int 0)) (tCons (tC (V.int 2)) (tCons (tC (V.int 3)) (tCons (tC (V.int 9)) tNil)))))) (gName 6) tYes (tCall spMust [] E0 (tCons (tVar 4) (tCons (tVar 6) (tCons (tC (V.int 1)) (tCons (tC (V.int 3)) tNil))))) [6]) (gName 5))
    (tRet (tOp (rEqA K) (tVar 5) (tLst (tCons (tC (V.bl true)) (tCons (tC (V.bl true)) (tCons (tC (V.bl false)) (tCons (tC (V.bl false)) tNil))))))))))

theorem fine25_2 {K : PySem.W.Frag} {D : Ends} {p t : Addr} {ops : List Op} {x2 x4 : Option V} {H : Hp} {N : Nat} (pt : Pot H p N) (hN : 3 ≤ N) (lg : LogAt H t ops) (few : ops.length ≤ 20) (lo : LogOk ops) (kn : ∀ o ∈ ops, o.v = 0 ∨ o.v ∈ wr ops)
    (q : ∀ (H' : Hp) (T : Addr) (tol : Int), Keep (At p) H H' → Pot H' p (N - 3) → H' T = some (.tup [.ref t, .int tol]) → LogAt H' t ops → Fine ops tol → D.rt (.ref T) H') :
    t25__law_fine_2 K D [some (.ref p), some (.int 12), x2, some (.ref t), x4, none] H := by
  unfold t25__law_fine_2
  walk_at "ws_21"
  refine ⟨t, ops, rfl, lg, few, lo, kn_lost kn, fun m H1 k1 le mb => ?_⟩
  walk_at "ws_21"
  have pt1 := pt.keep k1
  refine o_draw pt1 (by omega) (by omega) (by omega) fun H2 k kp2 pt2 h0 h1 => ?_
  walk_at "ws_21"
  refine o_pow ⟨by decide, by decide +kernel⟩ ?_
  walk_at "ws_21"
  rw [show (10 : Int) ^ (16 : Int).toNat = 10000000000000000 by decide +kernel]
  refine k_lst (by simp; decide) fun z H3 n3 => ?_
  walk_at "ws_21"
  refine o_any (pt2.new n3) (by omega) (fun e => (pt2.ne n3.no) e.symm) (.inl n3.at_) (by simp) (by simp) fun H4 j v ev kp4 pt4 => ?_
  have ⟨tol, hv, tl, tb⟩ : ∃ tol : Int, v = .int tol ∧ m ≤ tol ∧ tol ≤ 10000000000000000 := by
    match j, ev with
    | 0, ev => exact ⟨m, (Option.some.inj ev).symm, by omega, by omega⟩
    | 1, ev => exact ⟨m, (Option.some.inj ev).symm, by omega, by omega⟩
    | 2, ev => exact ⟨m + 1, (Option.some.inj ev).symm, by omega, by omega⟩
    | 3, ev => exact ⟨m + k, (Option.some.inj ev).symm, by omega, by omega⟩
    | 4, ev => exact ⟨10000000000000000, (Option.some.inj ev).symm, by omega, by omega⟩
  subst hv
  walk_at "ws_21"
  refine k_tup (by simp; decide) fun T H5 n5 => ?_
  walk_at "ws_21"
  have kk : Keep (At p) H H5 := (((k1.mono fun _ z => z.elim).trans kp2).trans (n3.keep.trans kp4)).trans n5.keep
  exact q H5 T tol kk ((pt4.new n5).le (by omega)) n5.at_ (lg.keep kk) (fine_of lo kn (le.more tl) tb)
theorem pure25__law_fine {K : PySem.W.Frag} {vs : List V} {H : Hp} {Q : VK} {E : XK} (h : spFine25 vs H Q E) : t25__law_fine K { nx := fun _ H' => Q .non H', rt := Q } (start ["pot", "most", "way", "log", "some", "least"] vs) H := by
  obtain ⟨p, N, rfl, pt, hN, q⟩ := h
  show t25__law_fine K _ [some (.ref p), some (.int 12), none, none, none, none] H
  unfold t25__law_fine
  walk_at "ws_21"
  refine o_draw pt (by omega) (by omega) (by omega) fun H1 way kp1 pt1 w0 w1 => ?_
  walk_at "ws_21"
  refine o_draw pt1 (by omega) (by omega) (by omega) fun H2 a kp2 pt2 a0 a1 => ?_
  walk_at "ws_21"
  refine o_draw pt2 (by omega) (by omega) (by omega) fun H3 b kp3 pt3 b0 b1 => ?_
  walk_at "ws_21"
  refine o_draw pt3 (by omega) (by omega) (by omega) fun H4 c kp4 pt4 c0 c1 => ?_
  walk_at "ws_21"
  refine ⟨p, a, b, 1 + c, _, rfl, pt4, by omega, by omega, by omega, by omega, by omega, by omega, by omega, fun H5 t ops kp5 pt5 dd lo len _ kn => ?_⟩
  walk_at "ws_21"
  have lg5 := LogAt.of_dd dd
  have k05 : Keep (At p) H H5 := (((kp1.trans kp2).trans kp3).trans kp4).trans kp5
  have few : ops.length ≤ 20 := by omega
  have e0 : decide (V.int way = V.int 0) = decide (way = 0) := by simp
  rw [e0]
  refine w_ite (fun cw => ?_) (fun cw => ?_)
  · unfold t25__law_fine_1
    walk_at "ws_21"
    refine k_lst (by simp; decide) fun z H6 n6 => ?_
    walk_at "ws_21"
    refine o_any (pt5.new n6) (by omega) (fun e => (pt5.ne n6.no) e.symm) (.inl n6.at_) (by simp) (by simp) fun H7 j v ev kp7 pt7 => ?_
    have ⟨room, hv, r0, r1⟩ : ∃ room : Int, v = .int room ∧ 1 ≤ room ∧ room ≤ 1000 := by
      match j, ev with
      | 0, ev => exact ⟨6, (Option.some.inj ev).symm, by omega, by omega⟩
      | 1, ev => exact ⟨30, (Option.some.inj ev).symm, by omega, by omega⟩
      | 2, ev => exact ⟨200, (Option.some.inj ev).symm, by omega, by omega⟩
    subst hv
    walk_at "ws_21"
    refine ⟨p, 12, room, _, rfl, pt7, by omega, by omega, r0, r1, by simp; omega, fun H8 t2 ops2 kp8 pt8 dd2 lo2 len2 _ => ?_⟩
    walk_at "ws_21"
    have lg8 := LogAt.of_dd dd2
    have few2 : ops2.length ≤ 20 := Nat.le_trans len2 (by decide)
    have k58 : Keep (At p) H5 H8 := n6.keep.trans (kp7.trans kp8)
    refine ⟨t2, ops2, rfl, lg8, by omega, fun L H9 k9 _ hL => ?_⟩
    walk_at "ws_21"
    refine k_lst (by simp) fun e H10 n10 => ?_
    refine o_eqZs (ns := []) (n10.get hL) n10.at_ ?_
    have k8A : Keep NoS H8 H10 := k9.trans n10.keep
    have ptA : Pot H10 p _ := pt8.keep k8A
    have k0A : Keep (At p) H H10 := (k05.trans k58).trans (k8A.mono fun _ z => z.elim)
    refine ⟨_, rfl, ?_⟩
    refine w_ite (fun cl => ?_) (fun cl => ?_)
    · walk_at "ws_21"
      refine fine25_2 ptA (by omega) (lg8.keep k8A) few2 lo2 (lost_kn lo2.1 cl) fun H' T tol k pt' hT lg' fi => ?_
      exact q H' T t2 ops2 tol (k0A.trans k) (pt'.le (by simp; omega)) hT lg' few2 fi
    · walk_at "ws_21"
      refine fine25_2 ptA (by omega) ((lg5.keep k58).keep k8A) few lo kn fun H' T tol k pt' hT lg' fi => ?_
      exact q H' T t ops tol (k0A.trans k) (pt'.le (by simp; omega)) hT lg' few fi
  · walk_at "ws_21"
    refine fine25_2 pt5 (by omega) lg5 few lo kn fun H' T tol k pt' hT lg' fi => ?_
    exact q H' T t ops tol (k05.trans k) (pt'.le (by omega)) hT lg' few fi
/-- a list of what is told of each, out of ints walked over -/
theorem lc_zk {σ : LB.St} {H : Hp} {Q : VK} {J : It} {G : Hp → Prop} {ns : List Int} {i : Nat} {te : TE} {key : Int → V} (w : Walk J ns.length G fun i H x H' => H' = H ∧ ∃ v, ns[i]? = some v ∧ x = V.int v) (few : ns.length ≤ 1000)
    (hG : ∀ H', Keep NoS H H' → G H')
    (he : ∀ (v : Int) (H2 : Hp) (Q2 : VK), v ∈ ns → Keep NoS H H2 → (∀ H3, Keep NoS H2 H3 → Q2 (key v) H3) → te ((σ.set i none).set i (some (.int v))) H2 Q2)
    (q : ∀ (b : Addr) (H' : Hp), Keep NoS H H' → H b = none → H' b = some (.lst (ns.map key)) → Q (.ref b) H') :
    LcEnd J (gName i) tYes te [i] σ H Q := by
  intro D hD
  refine lc_it w (fun n H' => Keep NoS H H' ∧ H' D = some (.lst ((ns.take n).map key))) ⟨Keep.new hD, upd_same⟩ (fun n H' _ h => hG _ h.1) ?_ ?_
  · rintro n x H1 H2 hn ⟨k1, hb⟩ ⟨rfl, v, hv, rfl⟩
    have mem := List.mem_of_getElem? hv
    refine ⟨by show ((σ.set i none).set i _).set i none = σ.set i none; rw [List.set_set, List.set_set], ?_⟩
    refine w_yes ?_
    refine w_iteT rfl ?_
    refine he v H2 _ mem k1 fun H3 k3 => ?_
    have hb3 := k3.all _ _ id hb
    refine ⟨_, hb3, ?_, (k1.trans k3).put0 hD hb3, ?_⟩
    · rw [List.length_map, List.length_take]
      exact Nat.lt_of_le_of_lt (by omega : _ ≤ 1000) (by decide)
    · rw [take_z hv, List.map_append]
      exact upd_same
  · rintro H1 ⟨k1, hb⟩
    rw [List.take_length] at hb
    exact q D H1 k1 hD hb
theorem pure25__law_right {K : PySem.W.Frag} {vs : List V} {H : Hp} {Q : VK} {E : XK} (h : spRight25 vs H Q E) : t25__law_right K { nx := fun _ H' => Q .non H', rt := Q } (start ["pot", "log", "tolerance", "ahead_here", "kept", "one", "other"] vs) H := by
  obtain ⟨p, N, rfl, pt, hN, q⟩ := h
  show t25__law_right K _ [some (.ref p), none, none, none, none, none, none] H
  unfold t25__law_right
  walk_at "ws_21"
  refine ⟨p, N, rfl, pt, by omega, fun H1 T t ops tol kp1 pt1 hT lg few fi => ?_⟩
  walk_at "ws_21"
  refine w_gt2 hT ?_
  walk_at "ws_21"
  refine ⟨t, ops, tol, rfl, lg, few, fi, fun d H2 g k2 hd hg => ?_⟩
  have lg2 := lg.keep k2
  have few2 : ops.length ≤ 200 := by omega
  walk_at "ws_21"
  refine o_reprLog lg2 fi.ok few2 ?_
  walk_at "ws_21"
  refine k_tup (by simp; decide) fun T2 H3 n3 => ?_
  walk_at "ws_21"
  refine w_gt2 n3.at_ ?_
  have hd3 := n3.get hd
  have lg3 := lg2.keep (S := NoS) n3.keep
  have vl : (vals ops).length ≤ 20 := Nat.le_trans (vals_len ops) few
  walk_at "ws_21"
  refine ⟨d, _, hd3, trivial, fun od => ?_⟩
  have kL : Keep (At d) H3 (upd H3 d (.frz od (.dK (mkD (vals ops) g)))) := Keep.lock hd3
  refine w_forK (d := d) (o := od) (f := g) (by with_unfolding_all rfl) (fun n σ H' => (∃ x5 x6, σ = [some (.ref p), some (.ref t), some (.int tol), some (.ref d), some (.str (PyData.tuple (ops.map Op.dat)).shown), x5, x6]) ∧ Keep (At d) H3 H' ∧ H' d = some (.frz od (.dK (mkD (vals ops) g))))
    ⟨⟨_, _, rfl⟩, kL, upd_same⟩ (fun n σ H' _ h => h.2.2) ?_ ?_
  · rintro n u σ H4 eu ⟨⟨x5, x6, rfl⟩, k4, f4⟩
    have mu := List.mem_of_getElem? eu
    walk_at "ws_21"
    unfold t25__law_right_2
    walk_at "ws_21"
    refine w_forK (d := d) (o := od) (f := g) (by with_unfolding_all rfl) (fun n σ H' => (∃ x6, σ = [some (.ref p), some (.ref t), some (.int tol), some (.ref d), some (.str (PyData.tuple (ops.map Op.dat)).shown), some (.int u), x6]) ∧ Keep (At d) H3 H' ∧ H' d = some (.frz od (.dK (mkD (vals ops) g))))
      ⟨⟨_, rfl⟩, k4, f4⟩ (fun n σ H' _ h => h.2.2) ?_ ?_
    · rintro m v σ H5 ev ⟨⟨x6, rfl⟩, k5, f5⟩
      have mv := List.mem_of_getElem? ev
      walk_at "ws_21"
      unfold t25__law_right_1
      walk_at "ws_21"
      refine ⟨t, ops, tol, u, v, rfl, lg3.keep k5, few2, fi, mu, mv, fun H6 k6 => ?_⟩
      walk_at "ws_21"
      refine o_reprB ?_
      walk_at "ws_21"
      refine w_dget ?_
      walk_at "ws_21"
      have f6 := k6.all _ _ id f5
      refine o_dgetR (.inr ⟨_, f6⟩) mv ?_
      obtain ⟨l, ns, e1, e2, mem⟩ := hg v mv
      rw [e1]
      have ld : l ≠ d := fun e => by rw [e, hd] at e2; cases e2
      have l6 := k6.all _ _ id (k5.all _ _ ld (n3.get e2))
      refine o_inIntsY l6 ?_
      walk_at "ws_21"
      refine o_reprB ?_
      walk_at "ws_21"
      have eq : twoB ops tol u v = decide (u ∈ ns) := by
        cases c : twoB ops tol u v with
        | true => exact (decide_eq_true ((mem u).mpr ⟨mu, (twoB_is fi mu mv).mp c⟩)).symm
        | false => exact (decide_eq_false fun z => by
            have := (twoB_is fi mu mv).mpr ((mem u).mp z).2
            rw [c] at this
            cases this).symm
      rw [eq]
      refine w_iteF (by simp) ?_
      walk_at "ws_21"
      exact ⟨⟨_, rfl⟩, k5.trans (k6.mono fun _ z => z.elim), f6⟩
    · rintro σ H5 ⟨⟨x6, rfl⟩, k5, f5⟩
      exact ⟨⟨_, _, rfl⟩, k5, f5⟩
  rintro σ H4 ⟨⟨x5, x6, rfl⟩, k4, f4⟩
  refine ⟨f4, ?_⟩
  have u4 := k4.unlock hd3
  generalize upd H4 d (.dK (mkD (vals ops) g)) = H5 at u4
  have lg5 := lg3.keep u4
  have hd5 := u4.all _ _ id hd3
  walk_at "ws_21"
  refine o_reprLog lg5 fi.ok few2 ?_
  walk_at "ws_21"
  refine w_iteT (by simp) ?_
  walk_at "ws_21"
  refine ⟨d, _, hd5, trivial, fun od2 => ?_⟩
  have kL5 : Keep (At d) H5 (upd H5 d (.frz od2 (.dK (mkD (vals ops) g)))) := Keep.lock hd5
  refine w_lcK (by with_unfolding_all rfl) upd_same ?_
  refine lc_zk (key := fun _ => .bl false) walk_zs_keys (by omega) (fun H' k => k.all _ _ id upd_same) (fun v H6 Q2 mv k6 q2 => ?_) fun b H6 k6 zb hb => ?_
  · show tOp (rInA K) _ _ [some (.ref p), some (.ref t), some (.int tol), some (.ref d), some (.str (PyData.tuple (ops.map Op.dat)).shown), some (.int v), x6] H6 Q2
    walk_at "ws_21"
    refine w_dget ?_
    walk_at "ws_21"
    refine o_dgetR (.inr ⟨_, k6.all _ _ id upd_same⟩) mv ?_
    obtain ⟨l, ns, e1, e2, mem⟩ := hg v mv
    rw [e1]
    have ld : l ≠ d := fun e => by rw [e, hd] at e2; cases e2
    have l6 := k6.all _ _ id (show (upd H5 d (.frz od2 (.dK (mkD (vals ops) g)))) l = _ by rw [upd_ne ld]; exact u4.all _ _ id (n3.get e2))
    refine o_inIntsY l6 ?_
    rw [decide_eq_false fun z => two_irr fi.nc mv ((mem v).mp z).2]
    exact q2 H6 (Keep.refl _ _)
  have f6 := k6.all _ _ id (show (upd H5 d (.frz od2 (.dK (mkD (vals ops) g)))) d = _ from upd_same)
  refine ⟨f6, ?_⟩
  have k56 : Keep NoS H5 (upd H6 d (.dK (mkD (vals ops) g))) := (kL5.trans (k6.mono fun _ z => z.elim)).unlock hd5
  have bd : b ≠ d := fun e => by rw [e, upd_same] at zb; cases zb
  have eb : (vals ops).map (fun _ => V.bl false) = ((vals ops).map fun _ => false).map V.bl := by rw [List.map_map]; rfl
  refine ⟨b, (vals ops).map fun _ => false, rfl, .inl (.inl (by rw [upd_ne bd, hb, eb])), ?_⟩
  have an : ((vals ops).map fun _ => false).any id = false := by simp
  rw [an]
  walk_at "ws_21"
  have kk : Keep (At p) H1 (upd H6 d (.dK (mkD (vals ops) g))) := (((k2.trans n3.keep).trans u4).trans k56).mono fun _ z => z.elim
  exact q _ (kp1.trans kk) ((pt1.keep (((k2.trans n3.keep).trans u4).trans k56)).le (by omega))
/-- the law's own last log -/
def ops25 : List Op := [⟨true, 1, 0, 10⟩, ⟨true, 2, 0, 5⟩, ⟨false, 2, 20, 21⟩, ⟨true, 3, 8, 30⟩]
theorem vals25 : vals ops25 = [1, 2, 3] := by decide +kernel
theorem ok25 : ∀ o ∈ ops25, o.ok := by
  intro o ho
  unfold Op.ok
  unfold ops25 at ho
  simp only [List.mem_cons, List.not_mem_nil, or_false] at ho
  rcases ho with rfl | rfl | rfl | rfl <;> simp
theorem fine25 {tol : Int} (t0 : 0 ≤ tol) (t1 : tol ≤ 9) : Fine ops25 tol := by
  have lo : LogOk ops25 := ⟨ok25, by decide +kernel⟩
  refine fine_of lo (by decide +kernel) ⟨?_, ?_, t0⟩ (by omega)
  · have : ∀ r ∈ ops25, r.w = false → ∀ w ∈ ops25, w.w = true → w.v = r.v → w.b - r.e ≤ 0 := by decide +kernel
    exact fun r hr a w hw b c => Int.le_trans (this r hr a w hw b c) t0
  · have : ∀ u ∈ vals ops25, ∀ v ∈ vals ops25, u < v → (if lastB ops25 u - fstL ops25 v < lastB ops25 v - fstL ops25 u then lastB ops25 u - fstL ops25 v else lastB ops25 v - fstL ops25 u) ≤ 0 := by decide +kernel
    exact fun u hu v hv a => Int.le_trans (this u hu v hv a) t0
theorem w_lcTT {K : PySem.W.Frag} {tl : TE} {g : TG} {tt : TT} {te : TE} {vs : List Nat} {σ : LB.St} {H : Hp} {Q : VK} (h : tl σ H fun x H1 => ∃ a, x = .ref a ∧ (∃ xs, SqT K H1 a xs) ∧ LcEnd (Itt K a) g tt te vs σ H1 Q) : tLc (iTup K tl) g tt te vs σ H Q := h
theorem o_eqB4 {K : PySem.W.Frag} {H : Hp} {Q : VK} {a b : Addr} {x y z t : Bool} (ea : H a = some (.lst [.bl x, .bl y, .bl z, .bl t])) (eb : H b = some (.lst [.bl x, .bl y, .bl z, .bl t])) (q : Q (.bl true) H) : rEqA K (.ref a) (.ref b) H Q := by
  have lay : ∀ d ∈ [PyData.bool x, .bool y, .bool z, .bool t], d.canLay0 = true ∧ d.depth ≤ 60 := fun d hd => by
    simp only [List.mem_cons, List.not_mem_nil, or_false] at hd
    rcases hd with rfl | rfl | rfl | rfl <;> exact ⟨by simp only [PyData.canLay0], by simp only [PyData.depth]; omega⟩
  have all := canLayAll0_of fun d hd => (lay d hd).1
  have dd : ∀ H, DDs NoS H [V.bl x, .bl y, .bl z, .bl t] [PyData.bool x, .bool y, .bool z, .bool t] := fun H => .cons (.bl _) (.cons (.bl _) (.cons (.bl _) (.cons (.bl _) .nil)))
  refine .inr (.inr (.inr ⟨.list [.bool x, .bool y, .bool z, .bool t], .list [.bool x, .bool y, .bool z, .bool t], .lst (.inl (.inl ea)) (dds_dp (dd H) all), .lst (.inl (.inl eb)) (dds_dp (dd H) all), shaped_list lay, shaped_list lay, ?_⟩))
  have ev : PyData.eqv (.list [.bool x, .bool y, .bool z, .bool t]) (.list [.bool x, .bool y, .bool z, .bool t]) = true := by
    cases x <;> cases y <;> cases z <;> cases t <;> decide +kernel
  rw [ev]
  exact q
theorem pure25_law {K : PySem.W.Frag} {vs : List V} {H : Hp} {Q : VK} {E : XK} (h : spLaw25 K vs H Q E) : t25_law K { nx := fun _ H' => Q .non H', rt := Q } (start ["script", "k", "pot", "turn", "log", "told", "tolerance"] vs) H := by
  obtain ⟨a, ns, rfl, sq, len, q⟩ := h
  show t25_law K _ [some (.ref a), none, none, none, none, none, none] H
  unfold t25_law
  walk_at "ws_21"
  refine o_lens sq ?_
  walk_at "ws_21"
  generalize hj : (if _ > (1 : Int) then _ else (1 : Int)) = j
  have hj3 : 1 ≤ j ∧ j ≤ 3 := by
    have e : ∀ m : Int, (if m < 3 then m else 3 : Int) ≤ 3 := fun m => by split <;> omega
    have e1 := e ((ns.map V.int).length : Int)
    rw [← hj]
    generalize (if ((ns.map V.int).length : Int) < 3 then ((ns.map V.int).length : Int) else 3 : Int) = m at e1 ⊢
    split <;> omega
  refine k_R1 (by omega) (by omega) (fun i σ H' => (∃ x1 x2 x3, σ = [some (.ref a), x1, x2, x3, none, none, none]) ∧ Keep NoS H H') ⟨⟨_, _, _, rfl⟩, Keep.refl _ _⟩ ?_ ?_
  · rintro i σ H1 hi ⟨⟨x1, x2, x3, rfl⟩, k1⟩
    have hi3 : (i : Int) < 3 := by omega
    walk_at "ws_21"
    unfold t25_law_1
    walk_at "ws_21"
    refine ⟨a, _, ns, rfl, sql_keep k1 sq, by omega, by omega, len, fun H2 p p0 k2 pt => ?_⟩
    walk_at "ws_21"
    refine ⟨6, rfl, by omega, by omega, fun D hD => ?_⟩
    have pD : D ≠ p := (pt.ne hD).symm
    refine lc_range (fun n H' => Keep (At p) H2 H' ∧ Pot H' p (8388608 - 400 * n) ∧ H' D = some (.lst (List.replicate n (V.bl true)))) ⟨Keep.new hD, pt.keep (Keep.new hD), upd_same⟩ ?_ ?_
    · rintro n H3 hn ⟨k3, pt3, hb⟩
      refine ⟨rfl, ?_⟩
      refine w_yes ?_
      refine w_iteT rfl ?_
      walk_at "ws_21"
      refine ⟨p, _, rfl, pt3, by omega, fun H4 k4 pt4 => ?_⟩
      have hb4 := k4.all _ _ pD hb
      refine ⟨_, hb4, ?_, (k3.trans k4).put0 hD hb4, (pt4.put Put.mk' pD.symm).le (by omega), ?_⟩
      · rw [List.length_replicate]
        exact Nat.lt_of_le_of_lt (by omega : n ≤ 1000) (by decide)
      · rw [upd_same, List.replicate_succ']
    · rintro H3 ⟨k3, pt3, hb⟩
      have e6 : List.replicate (Int.toNat 6) (V.bl true) = (List.replicate 6 true).map V.bl := rfl
      rw [e6] at hb
      refine ⟨D, _, rfl, .inl (.inl hb), ?_⟩
      walk_at "ws_21"
      refine w_iteF rfl ?_
      walk_at "ws_21"
      exact ⟨⟨_, _, _, rfl⟩, (k1.trans k2).trans0 k3 fun c e => .inr (by rw [e]; exact nos_free k1 p0)⟩
  rintro σ H1 ⟨⟨x1, x2, x3, rfl⟩, k1⟩
  walk_at "ws_21"
  refine k_tup (by simp; decide) fun a1 H2 n2 => ?_
  walk_at "ws_21"
  refine k_tup (by simp; decide) fun a2 H3 n3 => ?_
  walk_at "ws_21"
  refine k_tup (by simp; decide) fun a3 H4 n4 => ?_
  walk_at "ws_21"
  refine k_tup (by simp; decide) fun a4 H5 n5 => ?_
  walk_at "ws_21"
  refine k_tup (by simp; decide) fun t H6 n6 => ?_
  walk_at "ws_21"
  have lg : LogAt H6 t ops25 := ⟨_, n6.at_, rfl, fun i o e => by
    match i, e with
    | 0, e => cases e; exact ⟨a1, rfl, n6.get (n5.get (n4.get (n3.get n2.at_)))⟩
    | 1, e => cases e; exact ⟨a2, rfl, n6.get (n5.get (n4.get n3.at_))⟩
    | 2, e => cases e; exact ⟨a3, rfl, n6.get (n5.get n4.at_)⟩
    | 3, e => cases e; exact ⟨a4, rfl, n6.get n5.at_⟩⟩
  refine w_lcTT ?_
  walk_at "ws_21"
  refine k_tup (by simp; decide) fun u H7 n7 => ?_
  refine ⟨u, rfl, ⟨_, .inl (.inl n7.at_)⟩, ?_⟩
  refine lc_zk (ns := [0, 2, 3, 9]) (key := fun tol => .bl (twoB ops25 tol 1 3)) walk_zs_tup (by decide) (fun H' k => k.tup _ _ n7.at_) (fun v H8 Q2 mv k8 q2 => ?_) fun L H8 k8 zL hL => ?_
  · show tCall spMust _ _ _ [some (.ref a), x1, x2, x3, some (.ref t), none, some (.int v)] H8 Q2
    walk_at "ws_21"
    have hv : 0 ≤ v ∧ v ≤ 9 := by
      simp only [List.mem_cons, List.not_mem_nil, or_false] at mv
      omega
    refine ⟨t, ops25, v, 1, 3, rfl, (lg.keep (S := NoS) n7.keep).keep k8, by decide, fine25 hv.1 hv.2, by rw [vals25]; decide, by rw [vals25]; decide, fun H9 k9 => q2 H9 k9⟩
  walk_at "ws_21"
  refine k_lst (by simp; decide) fun M H9 n9 => ?_
  have hL9 := n9.get hL
  rw [show ([0, 2, 3, 9] : List Int).map (fun tol => V.bl (twoB ops25 tol 1 3)) = [.bl true, .bl true, .bl false, .bl false] by decide +kernel] at hL9
  refine o_eqB4 hL9 n9.at_ ?_
  exact q H9
end LB

namespace LB
open PySem PySem.Spec PyProof.Rows L2
/-! ### the end of a law, its def promised where no repr is under way -/
section
variable {P : Program} {w : World} {K : PySem.W.Frag} {mg mb : Str → Option Value} {k : Nat} {fa a : Addr} {fd : FuncData} {x : Str} {sp : Sp} {s1 : Shared} {vs : List Value} {ns : List Int}
/-- what a law's call must leave -/
abbrev GoodEnd (s1 : Shared) : Result → Shared → Prop := fun r s' =>
  r = .ok (.ret (.bool true)) ∧ OldK s1.heap s'.heap ∧ s'.os = s1.os ∧ AllBare s'.gens
theorem law_core {H : Hp} (only : Only H) (sq : SqL K H a (ns.map V.int)) (hok : HOk P w H s1.heap) (at_ : ∀ b, H b ≠ none → b = a) (nk : H a ≠ none → K.lookup a = none)
    (kin : K.In s1.heap) (glo : s1.heap.Ns mainGlobals mg) (blt : s1.heap.Ns builtinsNs mb) (boot : ∀ y : Str, y ≠ "__name__" → mb y = bootBuiltins y)
    (lim : s1.heap.NoLimit) (seer : s1.heap.NoSeer) (bare : s1.gens = #[]) (obj : s1.heap.get? a = some { cls := .type "list", data := .seq vs.toArray })
    (room : Room k callerA) (F : ∀ base : Heap, K.In base → base.Ns mainGlobals mg → (∃ o, base.get? sysModules = some o) → FnG P w K mg base CX0 k fa fd [x] sp)
    (bind : ∀ (s : Shared) (u : Value), BindsTo s fd ⟨[u], []⟩ [(x, u)]) (hsp : sp [.ref a] H (fun v _ => v = .bl true) fun _ _ _ => False) :
    codeAny (model P w) callerA (.call (.ref fa) ⟨[.ref a], []⟩) (GoodEnd s1) s1 := by
  -- an object that is no list is not tracked
  have off : ∀ {b : Addr} {o : Obj}, s1.heap.get? b = some o → (b = a → False) → H b = none := by
    intro b o _ hb
    cases q : H b with
    | none => rfl
    | some u => exact (hb (at_ b (by rw [q]; exact fun z => by cases z))).elim
  have dic : ∀ {b : Addr} {m : Str → Option Value}, s1.heap.Ns b m → (hidT s1.heap H).Ns b m := by
    rintro b m ⟨o, es, ep, e, d, rest⟩
    refine ⟨o, es, ep, hidT_get e (off e fun z => ?_), d, rest⟩
    subst z
    rw [obj] at e
    cases e
    cases d
  have kin2 : K.In (hidT s1.heap H) := by
    intro b o e
    refine hidT_get (kin b o e) ?_
    cases q : H b with
    | none => rfl
    | some u =>
      have hb := at_ b (by rw [q]; exact fun z => by cases z)
      subst hb
      rw [nk (by rw [q]; exact fun z => by cases z)] at e
      cases e
  obtain ⟨ml, l1, l2⟩ := lim
  have md : Mod K mg (hidT s1.heap H) := { kin := kin2, glob := dic glo, blt := ⟨mb, dic blt, boot⟩, nolimit := ⟨ml, dic l1, l2⟩ }
  have env0 : Env0 P w K mg (hidT s1.heap H) callerA [] s1 H :=
    { frames := rfl, mod := md, bs := fun b o e => of_hidT e, bsz := Nat.le_of_eq (hidT_size _ _), funs := trivial, frf := fun b hb => by (cases hb), hok := hok, bare := .of_eq bare }
  have run := (F _ kin2 (dic glo) (let ⟨_, hm, _⟩ := seer.mods; let ⟨o, _, _, e, _⟩ := dic hm; ⟨o, e⟩)).goes callerA [] s1 H ⟨[.ref a], []⟩ [.ref a] [.ref a] (fun v _ => v = .bl true) (fun _ _ _ => False)
    room rfl env0 (bind s1 (.ref a)) (Paired.cons rfl Paired.nil) hsp
  refine codeAny_mono run ?_
  intro r s2 h
  match r, h with
  | .error _, h => exact False.elim h
  | .ok .next, h => exact False.elim h
  | .ok .brk, h => exact False.elim h
  | .ok .cont, h => exact False.elim h
  | .ok (.ret u), ⟨v, H2, os, br, un, hok2, rv, q⟩ =>
    subst q
    cases rv
    refine ⟨rfl, OldK.of_keep fun b o e => ?_, os, br⟩
    cases q : H b with
    | none => exact un.keep b o e q (fun z => by cases z) (fun z => by cases z)
    | some u =>
      rcases only b with z | ⟨ob, xs, z⟩
      · rw [q] at z
        cases z
      · have e1 := (hok b _ z).1
        have e2 := (hok2 b _ (un.frzs b ob _ z)).1
        rw [e] at e1
        cases e1
        exact e2
/-- the heap in which the script alone is known, to the object -/
def scr (a : Addr) (vs : List Value) (ns : List Int) : Hp := fun b => if b = a then some (.frz { cls := .type "list", data := .seq vs.toArray } (.lst (ns.map V.int))) else none
theorem scr_at {a b : Addr} {vs : List Value} {ns : List Int} {u : HO} (h : scr a vs ns b = some u) : b = a ∧ u = .frz { cls := .type "list", data := .seq vs.toArray } (.lst (ns.map V.int)) := by
  unfold scr at h
  split at h
  · rename_i e
    exact ⟨e, (Option.some.inj h).symm⟩
  · cases h
theorem law_g (kin : K.In s1.heap) (glo : s1.heap.Ns mainGlobals mg) (blt : s1.heap.Ns builtinsNs mb) (boot : ∀ y : Str, y ≠ "__name__" → mb y = bootBuiltins y)
    (lim : s1.heap.NoLimit) (seer : s1.heap.NoSeer) (bare : s1.gens = #[]) (obj : s1.heap.get? a = some { cls := .type "list", data := .seq vs.toArray }) (hints : IntsAre vs ns) (len : ns.length ≤ sizeLine)
    (room : Room k callerA) (F : ∀ base : Heap, K.In base → base.Ns mainGlobals mg → (∃ o, base.get? sysModules = some o) → FnG P w K mg base CX0 k fa fd [x] sp)
    (bind : ∀ (s : Shared) (u : Value), BindsTo s fd ⟨[u], []⟩ [(x, u)])
    (hsp : ∀ H : Hp, Only H → SqL K H a (ns.map V.int) → sp [.ref a] H (fun v _ => v = .bl true) fun _ _ _ => False) :
    codeAny (model P w) callerA (.call (.ref fa) ⟨[.ref a], []⟩) (GoodEnd s1) s1 := by
  have rv := vals_ints hints
  cases hk : K.lookup a with
  | none =>
    have o1 : Only (scr a vs ns) := fun b => by
      cases q : scr a vs ns b with
      | none => exact Or.inl rfl
      | some u => exact Or.inr ⟨_, _, by rw [(scr_at q).2]⟩
    have s0 : SqL K (scr a vs ns) a (ns.map V.int) := Or.inl (Or.inr ⟨_, if_pos rfl⟩)
    refine law_core o1 s0 ?_ (fun b hb => ?_) (fun _ => hk) kin glo blt boot lim seer bare obj room F bind (hsp _ o1 s0)
    · intro b u q
      obtain ⟨e1, e2⟩ := scr_at q
      subst e1 e2
      exact ⟨obj, by rw [List.length_map]; exact len, vs, _, rv, obj⟩
    · cases q : scr a vs ns b with
      | none => exact (hb q).elim
      | some u => exact (scr_at q).1
  | some o =>
    have e := kin a o hk
    rw [obj] at e
    cases e
    have o1 : Only (fun _ => none) := fun b => Or.inl rfl
    have s0 : SqL K (fun _ => none) a (ns.map V.int) := Or.inr ⟨_, vs.toArray, _, hk, rfl, rfl, rfl, by rw [List.size_toArray, hints.length]; exact len, by simpa using rv⟩
    exact law_core o1 s0 (fun b u z => by cases z) (fun b hb => (hb rfl).elim) (fun hb => (hb rfl).elim) kin glo blt boot lim seer bare obj room F bind (hsp _ o1 s0)
end
theorem walk_g {l : PySem.W.OpenLaw} {n k : Nat} {q : Program} {loose : List Str} {XP : (Str → Option Value) → Heap → Prop} {YP : World → Heap → Prop} {d : DefRec}
    {K : Params → PySem.W.Frag} {sp : PySem.W.Frag → Sp} {x : Str} (most : l.most = some n) (small : n ≤ sizeLine) (nodef : d.params.defaults = []) (noimp : PyProof.Rows.importsNone q = true) (room : Room k callerA)
    (kin : ∀ (w : World) (h : Heap), YP w h → (K w.params).In h)
    (F : ∀ (w : World) (mg : Str → Option Value) (fa : Addr) (h : Heap), (K w.params).In h → h.Ns mainGlobals mg → mg d.name = some (.ref fa) →
      ∃ fd : FuncData, (∀ (s : Shared) (u : Value), BindsTo s fd ⟨[u], []⟩ [(x, u)]) ∧
        ∀ base : Heap, (K w.params).In base → base.Ns mainGlobals mg → (∃ o, base.get? sysModules = some o) → FnG l.prog w (K w.params) mg base CX0 k fa fd [x] (sp (K w.params)))
    (hsp : ∀ (K : PySem.W.Frag) (H : Hp) (a : Addr) (ns : List Int), ns.length ≤ n → Only H → SqL K H a (ns.map V.int) → sp K [.ref a] H (fun v _ => v = .bl true) fun _ _ _ => False) :
    PySem.W.WalkO q loose XP YP l.row.toRowW d [] (fun f us => PySem.call f us) := by
  apply Att.attach_call most nodef
  intro w s0 s1 mg mb fa o pm cd doc a vs ns G Y ho hd hcd hmg hobj hints hlen hg
  obtain ⟨fd, bind, hF⟩ := F w mg fa _ (kin w _ Y) G.T.g hmg
  exact law_g (kin w _ Y) G.T.g G.T.b G.T.builtins G.T.nolimit (G.T.seer noimp) hg hobj hints (Nat.le_trans hlen small) room hF bind fun H h1 h2 => hsp _ H a ns hlen h1 h2
end LB

namespace K01
open PySem PySem.Spec PyProof.Rows L2 LB GenW
def topS (i : Nat) : PySem.Stmt := PySem.Challenge.pw_clockslack_k25_what_must_precede.main.body.getD i (.Pass ⟨0, 0, 0, 0⟩)
theorem pe_kw {X : Cx} {CX : CXT} {k j m : Nat} {sp : Sp} {x : Str} {p pos : Pos} {tk : TA} {E : XK} {kws : List Keyword} {ks : List Str} {pi : {α : Type} → List α → List α → List α}
    (c : KalG X.prog X.w X.K X.mg X.base CX k x 0 ks pi sp) (em : ks.length = m) (hr : Room j X.A) (hk : k ≤ j) (gd : X.A.guards = some []) (hx : Passes CX X E) (gl : Gl X x) (hkw : PK X kws tk)
    (dbg : (x == ("__debug__" : Str)) = false := by decide) (all : (backToKw pos (keywordEach kws X.env)).all (·.1.isSome) = true := by rfl) (hks : (backToKw pos (keywordEach kws X.env)).filterMap (·.1) = ks := by rfl)
    (pl : ((backTo pos (starEach [] X.env)).any (·.1) || (backToKw pos (keywordEach kws X.env)).any (·.1.isNone)) = false := by rfl) : PE X (.Call (.Name x p) [] kws pos) (tCallW sp pi m E tk) := by
  subst em
  exact pe_gw c hr hk gd hx gl hkw dbg all hks pl
theorem pe_kv {X : Cx} {CX : CXT} {k j m n : Nat} {sp : Sp} {x : Str} {p pos : Pos} {t tk : TA} {E : XK} {e : Expr} {es : List Expr} {kws : List Keyword} {ks : List Str} {pi : {α : Type} → List α → List α → List α}
    (c : KalG X.prog X.w X.K X.mg X.base CX k x n ks pi sp) (em : ks.length = m) (hr : Room j X.A) (hk : k ≤ j) (gd : X.A.guards = some []) (hx : Passes CX X E) (gl : Gl X x) (ha : PA X (e :: es) t) (hkw : PK X kws tk)
    (dbg : (x == ("__debug__" : Str)) = false := by decide) (all : (backToKw pos (keywordEach kws X.env)).all (·.1.isSome) = true := by rfl) (hks : (backToKw pos (keywordEach kws X.env)).filterMap (·.1) = ks := by rfl)
    (st : starEach (e :: es) X.env = (false, eval e X.env) :: starEach es X.env := by rfl)
    (pl : ((backTo pos (starEach (e :: es) X.env)).any (·.1) || (backToKw pos (keywordEach kws X.env)).any (·.1.isNone)) = false := by rfl) : PE X (.Call (.Name x p) (e :: es) kws pos) (tCallV sp pi n m E t tk) := by
  subst em
  exact pe_gv c hr hk gd hx gl ha hkw dbg all hks st pl
theorem pe_gc {X : Cx} {x : Str} {pos : Pos} {v : V} (hg : Gl X x) (h : ∃ u, X.mg x = some u ∧ RelV v u) (hd : (x == ("__debug__" : Str)) = false := by decide) : PE X (.Name x pos) (tC v) := by
  obtain ⟨u, hm, r⟩ := h
  exact pe_glob hg hm r hd
theorem bindsG {K : PySem.W.Frag} {x qual : Str} {st : Stmt} {f : Addr} {fd : FuncData} {ps : List Str} (F : Fun K x qual st f fd)
    (h : ∀ (kV doc pm : Value) (an : Option Addr) (cdv ct : Value) (us : List Value), us.length = ps.length → bindArgs (PySem.W.fnOf x qual (defArgs st) (defBody st) (defScope st) .none kV doc pm an cdv ct) ⟨us, []⟩ = pure (ps.zip us)) :
    ∀ us : List Value, us.length = ps.length → bindArgs fd ⟨us, []⟩ = pure (ps.zip us) := by
  obtain ⟨oc, od, kV, doc, pm, an, cdv, ct, osl, rfl, lk, hcd⟩ := F.ex
  exact h kV doc pm an cdv ct
theorem bindsW {K : PySem.W.Frag} {x qual : Str} {st : Stmt} {f : Addr} {fd : FuncData} {ps ks : List Str} {n : Nat} {pi : {α : Type} → List α → List α → List α} (F : Fun K x qual st f fd)
    (h : ∀ (kV doc pm : Value) (an : Option Addr) (cdv ct : Value) (us ws : List Value), us.length = n → ws.length = ks.length → bindArgs (PySem.W.fnOf x qual (defArgs st) (defBody st) (defScope st) .none kV doc pm an cdv ct) ⟨us, ks.zip ws⟩ = pure (ps.zip (pi us ws))) :
    ∀ us ws : List Value, us.length = n → ws.length = ks.length → bindArgs fd ⟨us, ks.zip ws⟩ = pure (ps.zip (pi us ws)) := by
  obtain ⟨oc, od, kV, doc, pm, an, cdv, ct, osl, rfl, lk, hcd⟩ := F.ex
  exact h kV doc pm an cdv ct
theorem fng_never {P : Program} {w : World} {K : PySem.W.Frag} {mg : Str → Option Value} {base : Heap} {k : Nat} {f : Addr} {fd : FuncData} {ps : List Str} : FnG P w K mg base CX0 k f fd ps (fun _ _ _ _ => False) :=
  ⟨fun _ _ _ _ h => h.elim, fun _ _ _ _ _ _ _ _ _ _ _ _ _ _ h => h.elim⟩
section
variable {P : Program} {w : World} {K : PySem.W.Frag} {mg : Str → Option Value} {base : Heap}
abbrev s_is_integer : Stmt := topS 6
abbrev N_is_integer : List Str := ["value"]
theorem sc_is_integer : FnScope N_is_integer ["value"] (defScope s_is_integer) := ⟨rfl, rfl, rfl, by decide +kernel, rfl, by decide +kernel, by decide +kernel⟩

theorem der_is_integer {f : Addr} {cdv : Value} {A : Around} {outer : List Env} {s : Shared} {H : Hp} {E : XK}
    (n_isinstance : mg "isinstance" = none)
    (n_int : mg "int" = none)
    (n_bool : mg "bool" = none)
    (hr : Room 0 (A.deeper (envOfC "is_integer" (defScope s_is_integer) s.heap.objs.size f cdv))) (gd : (A.deeper (envOfC "is_integer" (defScope s_is_integer) s.heap.objs.size f cdv)).guards = some []) :
    PSs (cxOf CX0 P w K mg base N_is_integer "is_integer" (defScope s_is_integer) f cdv A outer s H E).nox (defBody s_is_integer) (t_is_integer K) :=
  (pss_one (ps_ret (pe_and (pe_callB call_isi (by rfl) n_isinstance (by decide +kernel) (pa_cons (pv 0) (pa_cons (pe_bltn (v := .ty "int") (by rfl) n_int (by decide +kernel) rfl) pa_nil))) (pe_one (pe_not (pe_callB call_isi (by rfl) n_isinstance (by decide +kernel) (pa_cons (pv 0) (pa_cons (pe_bltn (v := .ty "bool") (by rfl) n_bool (by decide +kernel) rfl) pa_nil))))))))

theorem ok_is_integer {f : Addr} {fd : FuncData} (F : Fun K "is_integer" "is_integer" s_is_integer f fd)
    (n_isinstance : mg "isinstance" = none)
    (n_int : mg "int" = none)
    (n_bool : mg "bool" = none) :
    FnG P w K mg base CX0 1 f fd ["value"] spIsInt :=
  fn_g F sc_is_integer (fun vs H Q E h => spIsInt_arity h) (fun cdv A outer s H vs Q E hr gd0 h => ⟨t_is_integer K, PSs.nox (der_is_integer n_isinstance n_int n_bool hr gd0), pure_is_integer h⟩)

abbrev s_is_integer_within : Stmt := topS 7
abbrev N_is_integer_within : List Str := ["value", "least", "greatest"]
theorem sc_is_integer_within : FnScope N_is_integer_within ["value", "least", "greatest"] (defScope s_is_integer_within) := ⟨rfl, rfl, rfl, by decide +kernel, rfl, by decide +kernel, by decide +kernel⟩

theorem der_is_integer_within {f : Addr} {cdv : Value} {A : Around} {outer : List Env} {s : Shared} {H : Hp} {E : XK}
    (g_is_integer : CalG P w K mg base CX0 1 "is_integer" spIsInt)
    (hr : Room 1 (A.deeper (envOfC "is_integer_within" (defScope s_is_integer_within) s.heap.objs.size f cdv))) (gd : (A.deeper (envOfC "is_integer_within" (defScope s_is_integer_within) s.heap.objs.size f cdv)).guards = some []) :
    PSs (cxOf CX0 P w K mg base N_is_integer_within "is_integer_within" (defScope s_is_integer_within) f cdv A outer s H E).nox (defBody s_is_integer_within) (t_is_integer_within K) :=
  (pss_one (ps_ret (pe_and (pe_g g_is_integer hr (by decide) gd pass0 (by rfl) (pa_cons (pv 0) pa_nil)) (pe_one (pe_chain op_le op_le (pv 1) (pv 0) (pv 2))))))

theorem ok_is_integer_within {f : Addr} {fd : FuncData} (F : Fun K "is_integer_within" "is_integer_within" s_is_integer_within f fd)
    (g_is_integer : CalG P w K mg base CX0 1 "is_integer" spIsInt) :
    FnG P w K mg base CX0 2 f fd ["value", "least", "greatest"] spWithin :=
  fn_g F sc_is_integer_within (fun vs H Q E h => spWithin_arity h) (fun cdv A outer s H vs Q E hr gd0 h => ⟨t_is_integer_within K, PSs.nox (der_is_integer_within g_is_integer hr gd0), pure_is_integer_within h⟩)

abbrev s_is_index : Stmt := topS 14
abbrev N_is_index : List Str := ["log", "value"]
theorem sc_is_index : FnScope N_is_index ["log", "value"] (defScope s_is_index) := ⟨rfl, rfl, rfl, by decide +kernel, rfl, by decide +kernel, by decide +kernel⟩

theorem der_is_index {f : Addr} {cdv : Value} {A : Around} {outer : List Env} {s : Shared} {H : Hp} {E : XK}
    (g_is_integer_within : CalG P w K mg base CX0 2 "is_integer_within" spWithin)
    (n_len : mg "len" = none)
    (hr : Room 2 (A.deeper (envOfC "is_index" (defScope s_is_index) s.heap.objs.size f cdv))) (gd : (A.deeper (envOfC "is_index" (defScope s_is_index) s.heap.objs.size f cdv)).guards = some []) :
    PSs (cxOf CX0 P w K mg base N_is_index "is_index" (defScope s_is_index) f cdv A outer s H E).nox (defBody s_is_index) (t_is_index K) :=
  (pss_one (ps_ret (pe_g g_is_integer_within hr (by decide) gd pass0 (by rfl) (pa_cons (pv 1) (pa_cons pe_int (pa_cons (pe_op op_sub (pe_callB call_len (by rfl) n_len (by decide +kernel) (pa_cons (pv 0) pa_nil)) pe_int) pa_nil))))))

theorem ok_is_index {f : Addr} {fd : FuncData} (F : Fun K "is_index" "is_index" s_is_index f fd)
    (g_is_integer_within : CalG P w K mg base CX0 2 "is_integer_within" spWithin)
    (n_len : mg "len" = none) :
    FnG P w K mg base CX0 3 f fd ["log", "value"] spIsIndex :=
  fn_g F sc_is_index (fun vs H Q E h => spIsIndex_arity h) (fun cdv A outer s H vs Q E hr gd0 h => ⟨t_is_index K, PSs.nox (der_is_index g_is_integer_within n_len hr gd0), pure_is_index h⟩)

abbrev s_surely_before : Stmt := topS 15
abbrev N_surely_before : List Str := ["log", "tolerance", "one", "other", "index"]
theorem sc_surely_before : FnScope N_surely_before ["log", "tolerance", "one", "other"] (defScope s_surely_before) := ⟨rfl, rfl, rfl, by decide +kernel, rfl, by decide +kernel, by decide +kernel⟩

theorem der_surely_before {f : Addr} {cdv : Value} {A : Around} {outer : List Env} {s : Shared} {H : Hp} {E : XK}
    (g_is_index : CalG P w K mg base CX0 3 "is_index" spIsIndex)
    (c_BEGIN : ∃ u, mg "BEGIN" = some u ∧ RelV (V.int 2) u)
    (c_END : ∃ u, mg "END" = some u ∧ RelV (V.int 3) u)
    (hr : Room 3 (A.deeper (envOfC "surely_before" (defScope s_surely_before) s.heap.objs.size f cdv))) (gd : (A.deeper (envOfC "surely_before" (defScope s_surely_before) s.heap.objs.size f cdv)).guards = some []) :
    PSs (cxOf CX0 P w K mg base N_surely_before "surely_before" (defScope s_surely_before) f cdv A outer s H E).nox (defBody s_surely_before) (t_surely_before K) :=
  (pss_cons (ps_for PassesOwn.never rfl (pi_tup (pe_tup (pa_cons (pv 2) (pa_cons (pv 3) pa_nil)))) (pg_name (i := 4) sc_surely_before.nd rfl (by first | exact Or.inl rfl | exact Or.inr rfl))
      (pss_one (ps_if (pt_not (pt_val (pe_g g_is_index hr (by decide) gd pass0 (by rfl) (pa_cons (pv 0) (pa_cons (pv 4) pa_nil)))))
      (pss_one ps_never) pss_nil)))
      (pss_one (ps_ret (pe_cmpR op_lt (pe_op op_addA (pe_ix ix_seq (pe_ix ix_seq (pv 0) (pv 2) (fun _ _ => rfl)) (pe_gc (by rfl) c_END) (fun _ _ => rfl)) (pv 1)) (pe_ix ix_seq (pe_ix ix_seq (pv 0) (pv 3) (fun _ _ => rfl)) (pe_gc (by rfl) c_BEGIN) (fun _ _ => rfl)) (nomark _)))))

theorem ok_surely_before {f : Addr} {fd : FuncData} (F : Fun K "surely_before" "surely_before" s_surely_before f fd)
    (g_is_index : CalG P w K mg base CX0 3 "is_index" spIsIndex)
    (c_BEGIN : ∃ u, mg "BEGIN" = some u ∧ RelV (V.int 2) u)
    (c_END : ∃ u, mg "END" = some u ∧ RelV (V.int 3) u) :
    FnG P w K mg base CX0 4 f fd ["log", "tolerance", "one", "other"] spSurely :=
  fn_g F sc_surely_before (fun vs H Q E h => spSurely_arity h) (fun cdv A outer s H vs Q E hr gd0 h => ⟨t_surely_before K, PSs.nox (der_surely_before g_is_index c_BEGIN c_END hr gd0), pure_surely_before h⟩)

abbrev s_values_of : Stmt := topS 17
abbrev N_values_of : List Str := ["log", "operation"]
theorem sc_values_of : FnScope N_values_of ["log"] (defScope s_values_of) := ⟨rfl, rfl, rfl, by decide +kernel, rfl, by decide +kernel, by decide +kernel⟩

theorem der_values_of {f : Addr} {cdv : Value} {A : Around} {outer : List Env} {s : Shared} {H : Hp} {E : XK}
    (n_tuple : mg "tuple" = none)
    (n_sorted : mg "sorted" = none)
    (c_VALUE : ∃ u, mg "VALUE" = some u ∧ RelV (V.int 1) u)
    (hr : Room 0 (A.deeper (envOfC "values_of" (defScope s_values_of) s.heap.objs.size f cdv))) (gd : (A.deeper (envOfC "values_of" (defScope s_values_of) s.heap.objs.size f cdv)).guards = some []) :
    PSs (cxOf CX0 P w K mg base N_values_of "values_of" (defScope s_values_of) f cdv A outer s H E).nox (defBody s_values_of) (t_values_of K) :=
  (pss_one (ps_ret (pe_callTy call_tuple_of (by rfl) n_tuple (by decide +kernel) (pa_cons (pe_sortC (v := "operation") (i := 1) rfl sc_values_of.nd (by rfl) n_sorted (pv 0) (blkOk_by (N := N_values_of) (sc := defScope s_values_of) (by decide +kernel)) (fun _ _ _ _ _ => (pg_name (i := 1) sc_values_of.nd rfl (by first | exact Or.inl rfl | exact Or.inr rfl))) (fun _ _ _ _ _ => (pe_ix ix_seq (pv 1) (pe_gc (by rfl) c_VALUE) (fun _ _ => rfl)))) pa_nil))))

theorem ok_values_of {f : Addr} {fd : FuncData} (F : Fun K "values_of" "values_of" s_values_of f fd)
    (n_tuple : mg "tuple" = none)
    (n_sorted : mg "sorted" = none)
    (c_VALUE : ∃ u, mg "VALUE" = some u ∧ RelV (V.int 1) u) :
    FnG P w K mg base CX0 1 f fd ["log"] spValues :=
  fn_g F sc_values_of (fun vs H Q E h => spValues_arity h) (fun cdv A outer s H vs Q E hr gd0 h => ⟨t_values_of K, PSs.nox (der_values_of n_tuple n_sorted c_VALUE hr gd0), pure_values_of h⟩)

abbrev s_is_value : Stmt := topS 19
abbrev N_is_value : List Str := ["log", "value"]
theorem sc_is_value : FnScope N_is_value ["log", "value"] (defScope s_is_value) := ⟨rfl, rfl, rfl, by decide +kernel, rfl, by decide +kernel, by decide +kernel⟩

theorem der_is_value {f : Addr} {cdv : Value} {A : Around} {outer : List Env} {s : Shared} {H : Hp} {E : XK}
    (g_is_integer : CalG P w K mg base CX0 1 "is_integer" spIsInt)
    (g_values_of : CalG P w K mg base CX0 1 "values_of" spValues)
    (hr : Room 1 (A.deeper (envOfC "is_value" (defScope s_is_value) s.heap.objs.size f cdv))) (gd : (A.deeper (envOfC "is_value" (defScope s_is_value) s.heap.objs.size f cdv)).guards = some []) :
    PSs (cxOf CX0 P w K mg base N_is_value "is_value" (defScope s_is_value) f cdv A outer s H E).nox (defBody s_is_value) (t_is_value K) :=
  (pss_one (ps_ret (pe_and (pe_g g_is_integer hr (by decide) gd pass0 (by rfl) (pa_cons (pv 1) pa_nil)) (pe_one (pe_cmpR (op_inA (units65 hr)) (pv 1) (pe_g g_values_of hr (by decide) gd pass0 (by rfl) (pa_cons (pv 0) pa_nil)) (by rfl))))))

theorem ok_is_value {f : Addr} {fd : FuncData} (F : Fun K "is_value" "is_value" s_is_value f fd)
    (g_is_integer : CalG P w K mg base CX0 1 "is_integer" spIsInt)
    (g_values_of : CalG P w K mg base CX0 1 "values_of" spValues) :
    FnG P w K mg base CX0 2 f fd ["log", "value"] spIsVal :=
  fn_g F sc_is_value (fun vs H Q E h => spIsVal_arity h) (fun cdv A outer s H vs Q E hr gd0 h => ⟨t_is_value K, PSs.nox (der_is_value g_is_integer g_values_of hr gd0), pure_is_value h⟩)

abbrev s_demand_value : Stmt := topS 18
abbrev N_demand_value : List Str := ["log", "value"]
theorem sc_demand_value : FnScope N_demand_value ["log", "value"] (defScope s_demand_value) := ⟨rfl, rfl, rfl, by decide +kernel, rfl, by decide +kernel, by decide +kernel⟩

theorem der_demand_value {f : Addr} {cdv : Value} {A : Around} {outer : List Env} {s : Shared} {H : Hp} {E : XK}
    (g_is_value : CalG P w K mg base CX0 2 "is_value" spIsVal)
    (hr : Room 2 (A.deeper (envOfC "demand_value" (defScope s_demand_value) s.heap.objs.size f cdv))) (gd : (A.deeper (envOfC "demand_value" (defScope s_demand_value) s.heap.objs.size f cdv)).guards = some []) :
    PSs (cxOf CX0 P w K mg base N_demand_value "demand_value" (defScope s_demand_value) f cdv A outer s H E).nox (defBody s_demand_value) (t7_demand_value K) :=
  (pss_one (ps_if (pt_not (pt_val (pe_g g_is_value hr (by decide) gd pass0 (by rfl) (pa_cons (pv 0) (pa_cons (pv 1) pa_nil)))))
      (pss_one ps_never) pss_nil))

theorem ok_demand_value {f : Addr} {fd : FuncData} (F : Fun K "demand_value" "demand_value" s_demand_value f fd)
    (g_is_value : CalG P w K mg base CX0 2 "is_value" spIsVal) :
    FnG P w K mg base CX0 3 f fd ["log", "value"] spDemand :=
  fn_g F sc_demand_value (fun vs H Q E h => spDemand_arity h) (fun cdv A outer s H vs Q E hr gd0 h => ⟨t7_demand_value K, PSs.nox (der_demand_value g_is_value hr gd0), pure7_demand_value h⟩)

abbrev s_writes_of : Stmt := topS 20
abbrev N_writes_of : List Str := ["log", "index", "operation"]
theorem sc_writes_of : FnScope N_writes_of ["log"] (defScope s_writes_of) := ⟨rfl, rfl, rfl, by decide +kernel, rfl, by decide +kernel, by decide +kernel⟩

theorem der_writes_of {f : Addr} {cdv : Value} {A : Around} {outer : List Env} {s : Shared} {H : Hp} {E : XK}
    (n_enumerate : mg "enumerate" = none)
    (c_VALUE : ∃ u, mg "VALUE" = some u ∧ RelV (V.int 1) u)
    (c_WRITE : ∃ u, mg "WRITE" = some u ∧ RelV (V.str "write") u)
    (c_KIND : ∃ u, mg "KIND" = some u ∧ RelV (V.int 0) u)
    (hr : Room 0 (A.deeper (envOfC "writes_of" (defScope s_writes_of) s.heap.objs.size f cdv))) (gd : (A.deeper (envOfC "writes_of" (defScope s_writes_of) s.heap.objs.size f cdv)).guards = some []) :
    PSs (cxOf CX0 P w K mg base N_writes_of "writes_of" (defScope s_writes_of) f cdv A outer s H E).nox (defBody s_writes_of) (t_writes_of K) :=
  (pss_one (ps_ret (pe_dc (own := [("index", 1), ("operation", 2)]) (g := (gTup K 2 (gCons (gName 1) (gCons (gName 2) gNil)))) (tt := (tTest (tOp (rEqA K) (tOp (rIx K) (tVar 2) (tC (V.int 0))) (tC (V.str "write"))))) rfl sc_writes_of.nd (pi_enA (by rfl) n_enumerate (pa_cons (pv 0) pa_nil)) (blkOk_by (N := N_writes_of) (sc := defScope s_writes_of) (by decide +kernel)) (fun _ _ _ _ _ => (pg_tup rfl (pgs_cons (pg_name (i := 1) sc_writes_of.nd rfl (by first | exact Or.inl rfl | exact Or.inr rfl)) (pgs_cons (pg_name (i := 2) sc_writes_of.nd rfl (by first | exact Or.inl rfl | exact Or.inr rfl)) pgs_nil)))) (fun _ _ _ _ _ => (pts_one (pt_cmpR (op_eqA (units65 hr)) (pe_ix ix_seq (pv 2) (pe_gc (by rfl) c_KIND) (fun _ _ => rfl)) (pe_gc (by rfl) c_WRITE) (nomark _)))) (fun _ _ _ _ _ => (pe_ix ix_seq (pv 2) (pe_gc (by rfl) c_VALUE) (fun _ _ => rfl))) (fun _ _ _ _ _ => (pv 1)))))

theorem ok_writes_of {f : Addr} {fd : FuncData} (F : Fun K "writes_of" "writes_of" s_writes_of f fd)
    (n_enumerate : mg "enumerate" = none)
    (c_VALUE : ∃ u, mg "VALUE" = some u ∧ RelV (V.int 1) u)
    (c_WRITE : ∃ u, mg "WRITE" = some u ∧ RelV (V.str "write") u)
    (c_KIND : ∃ u, mg "KIND" = some u ∧ RelV (V.int 0) u) :
    FnG P w K mg base CX0 1 f fd ["log"] spWritesOf :=
  fn_g F sc_writes_of (fun vs H Q E h => spWritesOf_arity h) (fun cdv A outer s H vs Q E hr gd0 h => ⟨t_writes_of K, PSs.nox (der_writes_of n_enumerate c_VALUE c_WRITE c_KIND hr gd0), pure_writes_of h⟩)

abbrev s_ended_first : Stmt := topS 21
abbrev N_ended_first : List Str := ["log", "found", "index", "operation", "value"]
theorem sc_ended_first : FnScope N_ended_first ["log"] (defScope s_ended_first) := ⟨rfl, rfl, rfl, by decide +kernel, rfl, by decide +kernel, by decide +kernel⟩

theorem der_ended_first {f : Addr} {cdv : Value} {A : Around} {outer : List Env} {s : Shared} {H : Hp} {E : XK}
    (n_enumerate : mg "enumerate" = none)
    (c_VALUE : ∃ u, mg "VALUE" = some u ∧ RelV (V.int 1) u)
    (c_END : ∃ u, mg "END" = some u ∧ RelV (V.int 3) u)
    (hr : Room 0 (A.deeper (envOfC "ended_first" (defScope s_ended_first) s.heap.objs.size f cdv))) (gd : (A.deeper (envOfC "ended_first" (defScope s_ended_first) s.heap.objs.size f cdv)).guards = some []) :
    PSs (cxOf CX0 P w K mg base N_ended_first "ended_first" (defScope s_ended_first) f cdv A outer s H E).nox (defBody s_ended_first) (t_ended_first K) :=
  (pss_cons (ps_set (i := 1) sc_ended_first.nd rfl (by first | exact Or.inl rfl | exact Or.inr rfl) pe_dnewK)
      (pss_cons (ps_for PassesOwn.never rfl (pi_enA (by rfl) n_enumerate (pa_cons (pv 0) pa_nil)) (pg_tup rfl (pgs_cons (pg_name (i := 2) sc_ended_first.nd rfl (by first | exact Or.inl rfl | exact Or.inr rfl)) (pgs_cons (pg_name (i := 3) sc_ended_first.nd rfl (by first | exact Or.inl rfl | exact Or.inr rfl)) pgs_nil)))
      (pss_cons (ps_set (i := 4) sc_ended_first.nd rfl (by first | exact Or.inl rfl | exact Or.inr rfl) (pe_ix ix_seq (pv 3) (pe_gc (by rfl) c_VALUE) (fun _ _ => rfl)))
      (pss_one (ps_if (PW.pt (pw_or (pt_cmp (pc_dnotin (hu_of hr) (pv 4) (pv 1))) (pw_or1 (pt_cmpR op_lt (pe_ix ix_seq (pv 3) (pe_gc (by rfl) c_END) (fun _ _ => rfl)) (pe_ix ix_seq (pe_ix ix_seq (pv 0) (pe_dget (hu_of hr) (pv 1) (pv 4) (fun _ _ => rfl)) (fun _ _ => rfl)) (pe_gc (by rfl) c_END) (fun _ _ => rfl)) (nomark _)))))
      (pss_one (ps_dput (hu_of hr) (pv 1) (pv 4) (pv 2) rfl)) pss_nil))))
      (pss_one (ps_ret (pv 1)))))

theorem ok_ended_first {f : Addr} {fd : FuncData} (F : Fun K "ended_first" "ended_first" s_ended_first f fd)
    (n_enumerate : mg "enumerate" = none)
    (c_VALUE : ∃ u, mg "VALUE" = some u ∧ RelV (V.int 1) u)
    (c_END : ∃ u, mg "END" = some u ∧ RelV (V.int 3) u) :
    FnG P w K mg base CX0 1 f fd ["log"] spEnded :=
  fn_g F sc_ended_first (fun vs H Q E h => spEnded_arity h) (fun cdv A outer s H vs Q E hr gd0 h => ⟨t_ended_first K, PSs.nox (der_ended_first n_enumerate c_VALUE c_END hr gd0), pure_ended_first h⟩)

abbrev s_begun_last : Stmt := topS 22
abbrev N_begun_last : List Str := ["log", "found", "index", "operation", "value"]
theorem sc_begun_last : FnScope N_begun_last ["log"] (defScope s_begun_last) := ⟨rfl, rfl, rfl, by decide +kernel, rfl, by decide +kernel, by decide +kernel⟩

theorem der_begun_last {f : Addr} {cdv : Value} {A : Around} {outer : List Env} {s : Shared} {H : Hp} {E : XK}
    (n_enumerate : mg "enumerate" = none)
    (c_VALUE : ∃ u, mg "VALUE" = some u ∧ RelV (V.int 1) u)
    (c_BEGIN : ∃ u, mg "BEGIN" = some u ∧ RelV (V.int 2) u)
    (hr : Room 0 (A.deeper (envOfC "begun_last" (defScope s_begun_last) s.heap.objs.size f cdv))) (gd : (A.deeper (envOfC "begun_last" (defScope s_begun_last) s.heap.objs.size f cdv)).guards = some []) :
    PSs (cxOf CX0 P w K mg base N_begun_last "begun_last" (defScope s_begun_last) f cdv A outer s H E).nox (defBody s_begun_last) (t_begun_last K) :=
  (pss_cons (ps_set (i := 1) sc_begun_last.nd rfl (by first | exact Or.inl rfl | exact Or.inr rfl) pe_dnewK)
      (pss_cons (ps_for PassesOwn.never rfl (pi_enA (by rfl) n_enumerate (pa_cons (pv 0) pa_nil)) (pg_tup rfl (pgs_cons (pg_name (i := 2) sc_begun_last.nd rfl (by first | exact Or.inl rfl | exact Or.inr rfl)) (pgs_cons (pg_name (i := 3) sc_begun_last.nd rfl (by first | exact Or.inl rfl | exact Or.inr rfl)) pgs_nil)))
      (pss_cons (ps_set (i := 4) sc_begun_last.nd rfl (by first | exact Or.inl rfl | exact Or.inr rfl) (pe_ix ix_seq (pv 3) (pe_gc (by rfl) c_VALUE) (fun _ _ => rfl)))
      (pss_one (ps_if (PW.pt (pw_or (pt_cmp (pc_dnotin (hu_of hr) (pv 4) (pv 1))) (pw_or1 (pt_cmpR op_gt (pe_ix ix_seq (pv 3) (pe_gc (by rfl) c_BEGIN) (fun _ _ => rfl)) (pe_ix ix_seq (pe_ix ix_seq (pv 0) (pe_dget (hu_of hr) (pv 1) (pv 4) (fun _ _ => rfl)) (fun _ _ => rfl)) (pe_gc (by rfl) c_BEGIN) (fun _ _ => rfl)) (nomark _)))))
      (pss_one (ps_dput (hu_of hr) (pv 1) (pv 4) (pv 2) rfl)) pss_nil))))
      (pss_one (ps_ret (pv 1)))))

theorem ok_begun_last {f : Addr} {fd : FuncData} (F : Fun K "begun_last" "begun_last" s_begun_last f fd)
    (n_enumerate : mg "enumerate" = none)
    (c_VALUE : ∃ u, mg "VALUE" = some u ∧ RelV (V.int 1) u)
    (c_BEGIN : ∃ u, mg "BEGIN" = some u ∧ RelV (V.int 2) u) :
    FnG P w K mg base CX0 1 f fd ["log"] spBegun :=
  fn_g F sc_begun_last (fun vs H Q E h => spBegun_arity h) (fun cdv A outer s H vs Q E hr gd0 h => ⟨t_begun_last K, PSs.nox (der_begun_last n_enumerate c_VALUE c_BEGIN hr gd0), pure_begun_last h⟩)

abbrev s_spans_of : Stmt := topS 23
abbrev N_spans_of : List Str := ["log", "ended", "begun", "spans", "value"]
theorem sc_spans_of : FnScope N_spans_of ["log"] (defScope s_spans_of) := ⟨rfl, rfl, rfl, by decide +kernel, rfl, by decide +kernel, by decide +kernel⟩

theorem der_spans_of {f : Addr} {cdv : Value} {A : Around} {outer : List Env} {s : Shared} {H : Hp} {E : XK}
    (g_ended_first : CalG P w K mg base CX0 1 "ended_first" spEnded)
    (g_begun_last : CalG P w K mg base CX0 1 "begun_last" spBegun)
    (c_END : ∃ u, mg "END" = some u ∧ RelV (V.int 3) u)
    (c_BEGIN : ∃ u, mg "BEGIN" = some u ∧ RelV (V.int 2) u)
    (hr : Room 1 (A.deeper (envOfC "spans_of" (defScope s_spans_of) s.heap.objs.size f cdv))) (gd : (A.deeper (envOfC "spans_of" (defScope s_spans_of) s.heap.objs.size f cdv)).guards = some []) :
    PSs (cxOf CX0 P w K mg base N_spans_of "spans_of" (defScope s_spans_of) f cdv A outer s H E).nox (defBody s_spans_of) (t_spans_of K) :=
  (pss_cons (ps_set (i := 1) sc_spans_of.nd rfl (by first | exact Or.inl rfl | exact Or.inr rfl) (pe_g g_ended_first hr (by decide) gd pass0 (by rfl) (pa_cons (pv 0) pa_nil)))
      (pss_cons (ps_set (i := 2) sc_spans_of.nd rfl (by first | exact Or.inl rfl | exact Or.inr rfl) (pe_g g_begun_last hr (by decide) gd pass0 (by rfl) (pa_cons (pv 0) pa_nil)))
      (pss_cons (ps_lock (ps_setDc (i := 3) (own := [("value", 4)]) (g := (gName 4)) (tt := tYes) rfl sc_spans_of.nd rfl rfl (sw_trueD rfl rfl rfl (by decide +kernel)) (pi_keys (pv 1)) (blkOk_by (N := N_spans_of) (sc := defScope s_spans_of) (by decide +kernel)) (fun _ _ _ _ _ => (pg_name (i := 4) sc_spans_of.nd rfl (by first | exact Or.inl rfl | exact Or.inr rfl))) (fun _ _ _ _ _ => pts_nil) (fun _ _ _ _ _ => (pv 4)) (fun _ _ _ _ _ => (pe_tup (pa_cons (pe_ix ix_seq (pe_ix ix_seq (pv 0) (pe_dget (hu_of hr) (pv 1) (pv 4) (fun _ _ => rfl)) (fun _ _ => rfl)) (pe_gc (by rfl) c_END) (fun _ _ => rfl)) (pa_cons (pe_ix ix_seq (pe_ix ix_seq (pv 0) (pe_dget (hu_of hr) (pv 2) (pv 4) (fun _ _ => rfl)) (fun _ _ => rfl)) (pe_gc (by rfl) c_BEGIN) (fun _ _ => rfl)) pa_nil))))))
      (pss_cons (ps_if (pt_cmp (pc_din (hu_of hr) pe_int (pv 3)))
      (pss_one (ps_dput (hu_of hr) (pv 3) pe_int (pe_tup (pa_cons pe_non (pa_cons (pe_ix ix_seq (pe_dget (hu_of hr) (pv 3) pe_int (fun _ _ => rfl)) pe_int (fun _ _ => rfl)) pa_nil))) rfl)) pss_nil)
      (pss_one (ps_ret (pv 3)))))))

theorem ok_spans_of {f : Addr} {fd : FuncData} (F : Fun K "spans_of" "spans_of" s_spans_of f fd)
    (g_ended_first : CalG P w K mg base CX0 1 "ended_first" spEnded)
    (g_begun_last : CalG P w K mg base CX0 1 "begun_last" spBegun)
    (c_END : ∃ u, mg "END" = some u ∧ RelV (V.int 3) u)
    (c_BEGIN : ∃ u, mg "BEGIN" = some u ∧ RelV (V.int 2) u) :
    FnG P w K mg base CX0 2 f fd ["log"] spSpansD :=
  fn_g F sc_spans_of (fun vs H Q E h => spSpansD_arity h) (fun cdv A outer s H vs Q E hr gd0 h => ⟨t_spans_of K, PSs.nox (der_spans_of g_ended_first g_begun_last c_END c_BEGIN hr gd0), pureD_spans_of h⟩)

abbrev s_is_span_before : Stmt := topS 24
abbrev N_is_span_before : List Str := ["one", "other", "tolerance"]
theorem sc_is_span_before : FnScope N_is_span_before ["one", "other", "tolerance"] (defScope s_is_span_before) := ⟨rfl, rfl, rfl, by decide +kernel, rfl, by decide +kernel, by decide +kernel⟩

theorem der_is_span_before {f : Addr} {cdv : Value} {A : Around} {outer : List Env} {s : Shared} {H : Hp} {E : XK}
    
    (hr : Room 0 (A.deeper (envOfC "is_span_before" (defScope s_is_span_before) s.heap.objs.size f cdv))) (gd : (A.deeper (envOfC "is_span_before" (defScope s_is_span_before) s.heap.objs.size f cdv)).guards = some []) :
    PSs (cxOf CX0 P w K mg base N_is_span_before "is_span_before" (defScope s_is_span_before) f cdv A outer s H E).nox (defBody s_is_span_before) (t_is_span_before K) :=
  (pss_one (ps_ret (pe_or (pe_cmpR op_isA (pe_ix ix_seq (pv 0) pe_int (fun _ _ => rfl)) pe_non (nomark _)) (pe_one (pe_cmpR op_lt (pe_op op_addA (pe_ix ix_seq (pv 0) pe_int (fun _ _ => rfl)) (pv 2)) (pe_ix ix_seq (pv 1) pe_int (fun _ _ => rfl)) (nomark _))))))

theorem ok_is_span_before {f : Addr} {fd : FuncData} (F : Fun K "is_span_before" "is_span_before" s_is_span_before f fd)
     :
    FnG P w K mg base CX0 1 f fd ["one", "other", "tolerance"] spSpanBefore :=
  fn_g F sc_is_span_before (fun vs H Q E h => spSpanBefore_arity h) (fun cdv A outer s H vs Q E hr gd0 h => ⟨t_is_span_before K, PSs.nox (der_is_span_before  hr gd0), pure_is_span_before h⟩)

abbrev s_are_spans_crossed : Stmt := topS 25
abbrev N_are_spans_crossed : List Str := ["one", "other", "tolerance"]
theorem sc_are_spans_crossed : FnScope N_are_spans_crossed ["one", "other", "tolerance"] (defScope s_are_spans_crossed) := ⟨rfl, rfl, rfl, by decide +kernel, rfl, by decide +kernel, by decide +kernel⟩

theorem der_are_spans_crossed {f : Addr} {cdv : Value} {A : Around} {outer : List Env} {s : Shared} {H : Hp} {E : XK}
    (g_is_span_before : CalG P w K mg base CX0 1 "is_span_before" spSpanBefore)
    (hr : Room 1 (A.deeper (envOfC "are_spans_crossed" (defScope s_are_spans_crossed) s.heap.objs.size f cdv))) (gd : (A.deeper (envOfC "are_spans_crossed" (defScope s_are_spans_crossed) s.heap.objs.size f cdv)).guards = some []) :
    PSs (cxOf CX0 P w K mg base N_are_spans_crossed "are_spans_crossed" (defScope s_are_spans_crossed) f cdv A outer s H E).nox (defBody s_are_spans_crossed) (t_are_spans_crossed K) :=
  (pss_one (ps_ret (pe_and (pe_g g_is_span_before hr (by decide) gd pass0 (by rfl) (pa_cons (pv 0) (pa_cons (pv 1) (pa_cons (pv 2) pa_nil)))) (pe_one (pe_g g_is_span_before hr (by decide) gd pass0 (by rfl) (pa_cons (pv 1) (pa_cons (pv 0) (pa_cons (pv 2) pa_nil))))))))

theorem ok_are_spans_crossed {f : Addr} {fd : FuncData} (F : Fun K "are_spans_crossed" "are_spans_crossed" s_are_spans_crossed f fd)
    (g_is_span_before : CalG P w K mg base CX0 1 "is_span_before" spSpanBefore) :
    FnG P w K mg base CX0 2 f fd ["one", "other", "tolerance"] spCrossed :=
  fn_g F sc_are_spans_crossed (fun vs H Q E h => spCrossed_arity h) (fun cdv A outer s H vs Q E hr gd0 h => ⟨t_are_spans_crossed K, PSs.nox (der_are_spans_crossed g_is_span_before hr gd0), pure_are_spans_crossed h⟩)

abbrev s_faults_within_values : Stmt := topS 32
abbrev N_faults_within_values : List Str := ["log", "tolerance", "writes", "read", "operation"]
theorem sc_faults_within_values : GScope N_faults_within_values ["log", "tolerance"] (defScope s_faults_within_values) := ⟨rfl, rfl, rfl, by decide +kernel, rfl, by decide +kernel, by decide +kernel⟩

theorem der_faults_within_values {yl : V → Hp → Prop} {f : Addr} {cdv : Value} {A : Around} {outer : List Env} {s : Shared} {H : Hp}
    (g_writes_of : CalG P w K mg base CX0 1 "writes_of" spWritesOf)
    (g_surely_before : CalG P w K mg base CX0 4 "surely_before" spSurely)
    (n_enumerate : mg "enumerate" = none)
    (c_VALUE : ∃ u, mg "VALUE" = some u ∧ RelV (V.int 1) u)
    (c_UNWRITTEN : ∃ u, mg "UNWRITTEN" = some u ∧ RelV (V.str "unwritten") u)
    (c_EARLY : ∃ u, mg "EARLY" = some u ∧ RelV (V.str "early") u)
    (hr : Room 4 (A.deeper (envOfC "faults_within_values" (defScope s_faults_within_values) s.heap.objs.size f cdv))) (gd : (A.deeper (envOfC "faults_within_values" (defScope s_faults_within_values) s.heap.objs.size f cdv)).guards = some []) :
    G1B (gCx P w K mg base N_faults_within_values "faults_within_values" (defScope s_faults_within_values) f cdv A outer s H) yl (defBody s_faults_within_values) (t_faults_within_values K yl) :=
  (g1_cons (g1_ps (ps_set (i := 2) sc_faults_within_values.nd rfl (by first | exact Or.inl rfl | exact Or.inr rfl) (pe_g g_writes_of hr (by decide) gd pass0 (by rfl) (pa_cons (pv 0) pa_nil))))
      (g1_cons (g1_for rfl (pi_enA (by rfl) n_enumerate (pa_cons (pv 0) pa_nil)) (pg_tup rfl (pgs_cons (pg_name (i := 3) sc_faults_within_values.nd rfl (by first | exact Or.inl rfl | exact Or.inr rfl)) (pgs_cons (pg_name (i := 4) sc_faults_within_values.nd rfl (by first | exact Or.inl rfl | exact Or.inr rfl)) pgs_nil)))
      (g1_one (g1_if (PW.pt (pw_and (pt_cmpR (op_neA (units65 hr)) (pe_ix ix_seq (pv 4) (pe_gc (by rfl) c_VALUE) (fun _ _ => rfl)) pe_int (nomark _)) (pw_and1 (pt_cmp (pc_dnotin (hu_of hr) (pe_ix ix_seq (pv 4) (pe_gc (by rfl) c_VALUE) (fun _ _ => rfl)) (pv 2))))))
      (g1_one (g1_yield (pe_tup (pa_cons (pe_gc (by rfl) c_UNWRITTEN) (pa_cons (pv 3) pa_nil))))) g1_nil)))
      (g1_one (g1_for rfl (pi_enA (by rfl) n_enumerate (pa_cons (pv 0) pa_nil)) (pg_tup rfl (pgs_cons (pg_name (i := 3) sc_faults_within_values.nd rfl (by first | exact Or.inl rfl | exact Or.inr rfl)) (pgs_cons (pg_name (i := 4) sc_faults_within_values.nd rfl (by first | exact Or.inl rfl | exact Or.inr rfl)) pgs_nil)))
      (g1_one (g1_if (PW.pt (pw_and (pt_cmp (pc_din (hu_of hr) (pe_ix ix_seq (pv 4) (pe_gc (by rfl) c_VALUE) (fun _ _ => rfl)) (pv 2))) (pw_and1 (pt_val (pe_g g_surely_before hr (by decide) gd pass0 (by rfl) (pa_cons (pv 0) (pa_cons (pv 1) (pa_cons (pv 3) (pa_cons (pe_dget (hu_of hr) (pv 2) (pe_ix ix_seq (pv 4) (pe_gc (by rfl) c_VALUE) (fun _ _ => rfl)) (fun _ _ => rfl)) pa_nil)))))))))
      (g1_one (g1_yield (pe_tup (pa_cons (pe_gc (by rfl) c_EARLY) (pa_cons (pv 3) (pa_cons (pe_dget (hu_of hr) (pv 2) (pe_ix ix_seq (pv 4) (pe_gc (by rfl) c_VALUE) (fun _ _ => rfl)) (fun _ _ => rfl)) pa_nil)))))) g1_nil))))))

theorem ok_faults_within_values {f : Addr} {fd : FuncData} (F : Fun K "faults_within_values" "faults_within_values" s_faults_within_values f fd)
    (g_writes_of : CalG P w K mg base CX0 1 "writes_of" spWritesOf)
    (g_surely_before : CalG P w K mg base CX0 4 "surely_before" spSurely)
    (n_enumerate : mg "enumerate" = none)
    (c_VALUE : ∃ u, mg "VALUE" = some u ∧ RelV (V.int 1) u)
    (c_UNWRITTEN : ∃ u, mg "UNWRITTEN" = some u ∧ RelV (V.str "unwritten") u)
    (c_EARLY : ∃ u, mg "EARLY" = some u ∧ RelV (V.str "early") u) :
    GFn1 P w K mg base 5 f fd ["log", "tolerance"] spWithin0 :=
  gf1_of F sc_faults_within_values (fun vs H R h => spNone_arity h) (fun cdv A outer s H vs R hr gd0 h => ⟨t_faults_within_values K (fun v H' => R (some v) H'), der_faults_within_values g_writes_of g_surely_before n_enumerate c_VALUE c_UNWRITTEN c_EARLY hr gd0, pure_faults_within_values h⟩)

abbrev s__pairs_before_each_other : Stmt := topS 35
abbrev N__pairs_before_each_other : List Str := ["log", "tolerance", "writes", "spans", "values", "value", "at", "one", "other"]
theorem sc__pairs_before_each_other : GScope N__pairs_before_each_other ["log", "tolerance"] (defScope s__pairs_before_each_other) := ⟨rfl, rfl, rfl, by decide +kernel, rfl, by decide +kernel, by decide +kernel⟩

theorem der__pairs_before_each_other {yl : V → Hp → Prop} {f : Addr} {cdv : Value} {A : Around} {outer : List Env} {s : Shared} {H : Hp}
    (g_writes_of : CalG P w K mg base CX0 1 "writes_of" spWritesOf)
    (g_spans_of : CalG P w K mg base CX0 2 "spans_of" spSpansD)
    (g_values_of : CalG P w K mg base CX0 1 "values_of" spValues)
    (g_are_spans_crossed : CalG P w K mg base CX0 2 "are_spans_crossed" spCrossed)
    (n_enumerate : mg "enumerate" = none)
    (hr : Room 2 (A.deeper (envOfC "_pairs_before_each_other" (defScope s__pairs_before_each_other) s.heap.objs.size f cdv))) (gd : (A.deeper (envOfC "_pairs_before_each_other" (defScope s__pairs_before_each_other) s.heap.objs.size f cdv)).guards = some []) :
    G1B (gCx P w K mg base N__pairs_before_each_other "_pairs_before_each_other" (defScope s__pairs_before_each_other) f cdv A outer s H) yl (defBody s__pairs_before_each_other) (t__pairs_before_each_other K yl) :=
  (g1_cons (g1_ps (ps_set (i := 2) sc__pairs_before_each_other.nd rfl (by first | exact Or.inl rfl | exact Or.inr rfl) (pe_g g_writes_of hr (by decide) gd pass0 (by rfl) (pa_cons (pv 0) pa_nil))))
      (g1_cons (g1_ps (ps_set (i := 3) sc__pairs_before_each_other.nd rfl (by first | exact Or.inl rfl | exact Or.inr rfl) (pe_g g_spans_of hr (by decide) gd pass0 (by rfl) (pa_cons (pv 0) pa_nil))))
      (g1_cons (g1_ps (ps_setLc (i := 4) (own := [("value", 5)]) (g := (gName 5)) (tt := (tOr (tTest (tOp (rEqA K) (tVar 5) (tC (V.int 0)))) (tB (tDIn (tVar 5) (tVar 2))))) rfl sc__pairs_before_each_other.nd rfl rfl (sw_true rfl rfl rfl (by decide +kernel)) (pi_seq (pe_g g_values_of hr (by decide) gd pass0 (by rfl) (pa_cons (pv 0) pa_nil))) (blkOk_by (N := N__pairs_before_each_other) (sc := defScope s__pairs_before_each_other) (by decide +kernel)) (fun _ _ _ _ _ => (pg_name (i := 5) sc__pairs_before_each_other.nd rfl (by first | exact Or.inl rfl | exact Or.inr rfl))) (fun _ _ _ _ _ => (pts_one (PW.pt (pw_or (pt_cmpR (op_eqA (units65 hr)) (pv 5) pe_int (nomark _)) (pw_or1 (pt_cmp (pc_din (hu_of hr) (pv 5) (pv 2)))))))) (fun _ _ _ _ _ => (pv 5))))
      (g1_one (g1_for rfl (pi_enA (by rfl) n_enumerate (pa_cons (pv 4) pa_nil)) (pg_tup rfl (pgs_cons (pg_name (i := 6) sc__pairs_before_each_other.nd rfl (by first | exact Or.inl rfl | exact Or.inr rfl)) (pgs_cons (pg_name (i := 7) sc__pairs_before_each_other.nd rfl (by first | exact Or.inl rfl | exact Or.inr rfl)) pgs_nil)))
      (g1_one (g1_for rfl (pi_seq (pe_slice sl_any (pv 4) (po_some (pe_op op_addA (pv 6) pe_int)) po_none)) (pg_name (i := 8) sc__pairs_before_each_other.nd rfl (by first | exact Or.inl rfl | exact Or.inr rfl))
      (g1_one (g1_if (pt_val (pe_g g_are_spans_crossed hr (by decide) gd pass0 (by rfl) (pa_cons (pe_dget (hu_of hr) (pv 3) (pv 7) (fun _ _ => rfl)) (pa_cons (pe_dget (hu_of hr) (pv 3) (pv 8) (fun _ _ => rfl)) (pa_cons (pv 1) pa_nil)))))
      (g1_one (g1_yield (pe_tup (pa_cons (pv 7) (pa_cons (pv 8) pa_nil))))) g1_nil)))))))))

theorem ok__pairs_before_each_other {f : Addr} {fd : FuncData} (F : Fun K "_pairs_before_each_other" "_pairs_before_each_other" s__pairs_before_each_other f fd)
    (g_writes_of : CalG P w K mg base CX0 1 "writes_of" spWritesOf)
    (g_spans_of : CalG P w K mg base CX0 2 "spans_of" spSpansD)
    (g_values_of : CalG P w K mg base CX0 1 "values_of" spValues)
    (g_are_spans_crossed : CalG P w K mg base CX0 2 "are_spans_crossed" spCrossed)
    (n_enumerate : mg "enumerate" = none) :
    GFn1 P w K mg base 3 f fd ["log", "tolerance"] spPairs0 :=
  gf1_of F sc__pairs_before_each_other (fun vs H R h => spNone_arity h) (fun cdv A outer s H vs R hr gd0 h => ⟨t__pairs_before_each_other K (fun v H' => R (some v) H'), der__pairs_before_each_other g_writes_of g_spans_of g_values_of g_are_spans_crossed n_enumerate hr gd0, pure__pairs h⟩)

abbrev s_faults : Stmt := topS 31
abbrev N_faults : List Str := ["log", "tolerance", "ended", "begun", "one", "other"]
theorem sc_faults : GScope N_faults ["log", "tolerance"] (defScope s_faults) := ⟨rfl, rfl, rfl, by decide +kernel, rfl, by decide +kernel, by decide +kernel⟩

theorem der_faults {yl : V → Hp → Prop} {f : Addr} {cdv : Value} {A : Around} {outer : List Env} {s : Shared} {H : Hp}
    (g_ended_first : CalG P w K mg base CX0 1 "ended_first" spEnded)
    (g_begun_last : CalG P w K mg base CX0 1 "begun_last" spBegun)
    (y__pairs_before_each_other : CalY P w K mg base 3 "_pairs_before_each_other" spPairs0)
    (y_faults_within_values : CalY P w K mg base 5 "faults_within_values" spWithin0)
    (c_LATE : ∃ u, mg "LATE" = some u ∧ RelV (V.str "late") u)
    (c_CROSSED : ∃ u, mg "CROSSED" = some u ∧ RelV (V.str "crossed") u)
    (hr : Room 8 (A.deeper (envOfC "faults" (defScope s_faults) s.heap.objs.size f cdv))) (gd : (A.deeper (envOfC "faults" (defScope s_faults) s.heap.objs.size f cdv)).guards = some []) :
    G1B (gCx P w K mg base N_faults "faults" (defScope s_faults) f cdv A outer s H) yl (defBody s_faults) (t_faults K yl) :=
  (g1_cons (g1_from (hr.mono (by decide)) gd (pgn_call y_faults_within_values hr (by decide) gd (by rfl) (pa_cons (pv 0) (pa_cons (pv 1) pa_nil))))
      (g1_cons (g1_ps (ps_set (i := 2) sc_faults.nd rfl (by first | exact Or.inl rfl | exact Or.inr rfl) (pe_g g_ended_first hr (by decide) gd pass0 (by rfl) (pa_cons (pv 0) pa_nil))))
      (g1_cons (g1_ps (ps_set (i := 3) sc_faults.nd rfl (by first | exact Or.inl rfl | exact Or.inr rfl) (pe_g g_begun_last hr (by decide) gd pass0 (by rfl) (pa_cons (pv 0) pa_nil))))
      (g1_one (g1_forY (hr.mono (by decide)) gd (pgn_call y__pairs_before_each_other hr (by decide) gd (by rfl) (pa_cons (pv 0) (pa_cons (pv 1) pa_nil))) (pg_tup rfl (pgs_cons (pg_name (i := 4) sc_faults.nd rfl (by first | exact Or.inl rfl | exact Or.inr rfl)) (pgs_cons (pg_name (i := 5) sc_faults.nd rfl (by first | exact Or.inl rfl | exact Or.inr rfl)) pgs_nil)))
      (g1_one (g1_if (pt_cmpR (op_eqA (units65 hr)) (pv 4) pe_int (nomark _))
      (g1_one (g1_yield (pe_tup (pa_cons (pe_gc (by rfl) c_LATE) (pa_cons (pe_dget (hu_of hr) (pv 2) (pv 5) (fun _ _ => rfl)) (pa_cons (pe_dget (hu_of hr) (pv 3) (pv 4) (fun _ _ => rfl)) pa_nil)))))) (g1_one (g1_yield (pe_tup (pa_cons (pe_gc (by rfl) c_CROSSED) (pa_cons (pe_dget (hu_of hr) (pv 2) (pv 4) (fun _ _ => rfl)) (pa_cons (pe_dget (hu_of hr) (pv 3) (pv 5) (fun _ _ => rfl)) (pa_cons (pe_dget (hu_of hr) (pv 2) (pv 5) (fun _ _ => rfl)) (pa_cons (pe_dget (hu_of hr) (pv 3) (pv 4) (fun _ _ => rfl)) pa_nil)))))))))))))))

theorem ok_faults {f : Addr} {fd : FuncData} (F : Fun K "faults" "faults" s_faults f fd)
    (g_ended_first : CalG P w K mg base CX0 1 "ended_first" spEnded)
    (g_begun_last : CalG P w K mg base CX0 1 "begun_last" spBegun)
    (y__pairs_before_each_other : CalY P w K mg base 3 "_pairs_before_each_other" spPairs0)
    (y_faults_within_values : CalY P w K mg base 5 "faults_within_values" spWithin0)
    (c_LATE : ∃ u, mg "LATE" = some u ∧ RelV (V.str "late") u)
    (c_CROSSED : ∃ u, mg "CROSSED" = some u ∧ RelV (V.str "crossed") u) :
    GFn1 P w K mg base 9 f fd ["log", "tolerance"] spFaults0 :=
  gf1_of F sc_faults (fun vs H R h => spNone_arity h) (fun cdv A outer s H vs R hr gd0 h => ⟨t_faults K (fun v H' => R (some v) H'), der_faults g_ended_first g_begun_last y__pairs_before_each_other y_faults_within_values c_LATE c_CROSSED hr gd0, pure_faults h⟩)

abbrev s_first_fault : Stmt := topS 33
abbrev N_first_fault : List Str := ["log", "tolerance", "fault"]
theorem sc_first_fault : FnScope N_first_fault ["log", "tolerance"] (defScope s_first_fault) := ⟨rfl, rfl, rfl, by decide +kernel, rfl, by decide +kernel, by decide +kernel⟩

theorem der_first_fault {f : Addr} {cdv : Value} {A : Around} {outer : List Env} {s : Shared} {H : Hp} {E : XK}
    (y_faults : CalY P w K mg base 9 "faults" spFaults0)
    (hr : Room 10 (A.deeper (envOfC "first_fault" (defScope s_first_fault) s.heap.objs.size f cdv))) (gd : (A.deeper (envOfC "first_fault" (defScope s_first_fault) s.heap.objs.size f cdv)).guards = some []) :
    PSs (cxOf CX0 P w K mg base N_first_fault "first_fault" (defScope s_first_fault) f cdv A outer s H E).nox (defBody s_first_fault) (t_first_fault K) :=
  (pss_cons (ps_forY (fun _ _ z => z) (hr.mono (by decide)) gd (pgn_call y_faults hr (by decide) gd (by rfl) (pa_cons (pv 0) (pa_cons (pv 1) pa_nil))) (pg_name (i := 2) sc_first_fault.nd rfl (by first | exact Or.inl rfl | exact Or.inr rfl))
      (pss_one (ps_ret (pv 2))))
      (pss_one (ps_ret pe_non)))

theorem ok_first_fault {f : Addr} {fd : FuncData} (F : Fun K "first_fault" "first_fault" s_first_fault f fd)
    (y_faults : CalY P w K mg base 9 "faults" spFaults0) :
    FnG P w K mg base CX0 11 f fd ["log", "tolerance"] spFirst0 :=
  fn_g F sc_first_fault (fun vs H Q E h => spFirst0_arity h) (fun cdv A outer s H vs Q E hr gd0 h => ⟨t_first_fault K, PSs.nox (der_first_fault y_faults hr gd0), pure_first_fault h⟩)

abbrev s_demand_explained : Stmt := topS 34
abbrev N_demand_explained : List Str := ["log", "tolerance", "fault"]
theorem sc_demand_explained : FnScope N_demand_explained ["log", "tolerance"] (defScope s_demand_explained) := ⟨rfl, rfl, rfl, by decide +kernel, rfl, by decide +kernel, by decide +kernel⟩

theorem der_demand_explained {f : Addr} {cdv : Value} {A : Around} {outer : List Env} {s : Shared} {H : Hp} {E : XK}
    (g_first_fault : CalG P w K mg base CX0 11 "first_fault" spFirst0)
    (hr : Room 11 (A.deeper (envOfC "demand_explained" (defScope s_demand_explained) s.heap.objs.size f cdv))) (gd : (A.deeper (envOfC "demand_explained" (defScope s_demand_explained) s.heap.objs.size f cdv)).guards = some []) :
    PSs (cxOf CX0 P w K mg base N_demand_explained "demand_explained" (defScope s_demand_explained) f cdv A outer s H E).nox (defBody s_demand_explained) (t_demand_explained K) :=
  (pss_cons (ps_set (i := 2) sc_demand_explained.nd rfl (by first | exact Or.inl rfl | exact Or.inr rfl) (pe_g g_first_fault hr (by decide) gd pass0 (by rfl) (pa_cons (pv 0) (pa_cons (pv 1) pa_nil))))
      (pss_one (ps_if (pt_cmpR op_notA (pv 2) pe_non (nomark _))
      (pss_one ps_never) pss_nil)))

theorem ok_demand_explained {f : Addr} {fd : FuncData} (F : Fun K "demand_explained" "demand_explained" s_demand_explained f fd)
    (g_first_fault : CalG P w K mg base CX0 11 "first_fault" spFirst0) :
    FnG P w K mg base CX0 12 f fd ["log", "tolerance"] spDemandE :=
  fn_g F sc_demand_explained (fun vs H Q E h => spDemandE_arity h) (fun cdv A outer s H vs Q E hr gd0 h => ⟨t_demand_explained K, PSs.nox (der_demand_explained g_first_fault hr gd0), pure_demand_explained h⟩)

abbrev s__is_ahead : Stmt := topS 40
abbrev N__is_ahead : List Str := ["spans", "tolerance", "one", "other"]
theorem sc__is_ahead : FnScope N__is_ahead ["spans", "tolerance", "one", "other"] (defScope s__is_ahead) := ⟨rfl, rfl, rfl, by decide +kernel, rfl, by decide +kernel, by decide +kernel⟩

theorem der__is_ahead {f : Addr} {cdv : Value} {A : Around} {outer : List Env} {s : Shared} {H : Hp} {E : XK}
    (g_is_span_before : CalG P w K mg base CX0 1 "is_span_before" spSpanBefore)
    (hr : Room 1 (A.deeper (envOfC "_is_ahead" (defScope s__is_ahead) s.heap.objs.size f cdv))) (gd : (A.deeper (envOfC "_is_ahead" (defScope s__is_ahead) s.heap.objs.size f cdv)).guards = some []) :
    PSs (cxOf CX0 P w K mg base N__is_ahead "_is_ahead" (defScope s__is_ahead) f cdv A outer s H E).nox (defBody s__is_ahead) (t__is_ahead K) :=
  (pss_one (ps_ret (pe_and (pe_cmpR (op_neA (units65 hr)) (pv 2) (pv 3) (nomark _)) (pe_one (pe_g g_is_span_before hr (by decide) gd pass0 (by rfl) (pa_cons (pe_dget (hu_of hr) (pv 0) (pv 2) (fun _ _ => rfl)) (pa_cons (pe_dget (hu_of hr) (pv 0) (pv 3) (fun _ _ => rfl)) (pa_cons (pv 1) pa_nil))))))))

theorem ok__is_ahead {f : Addr} {fd : FuncData} (F : Fun K "_is_ahead" "_is_ahead" s__is_ahead f fd)
    (g_is_span_before : CalG P w K mg base CX0 1 "is_span_before" spSpanBefore) :
    FnG P w K mg base CX0 2 f fd ["spans", "tolerance", "one", "other"] spIsAhead :=
  fn_g F sc__is_ahead (fun vs H Q E h => spIsAhead_arity h) (fun cdv A outer s H vs Q E hr gd0 h => ⟨t__is_ahead K, PSs.nox (der__is_ahead g_is_span_before hr gd0), pure__is_ahead h⟩)

abbrev s__values_ahead : Stmt := topS 39
abbrev N__values_ahead : List Str := ["log", "tolerance", "spans", "value", "other"]
theorem sc__values_ahead : FnScope N__values_ahead ["log", "tolerance"] (defScope s__values_ahead) := ⟨rfl, rfl, rfl, by decide +kernel, rfl, by decide +kernel, by decide +kernel⟩

theorem der__values_ahead {f : Addr} {cdv : Value} {A : Around} {outer : List Env} {s : Shared} {H : Hp} {E : XK}
    (g_spans_of : CalG P w K mg base CX0 2 "spans_of" spSpansD)
    (g__is_ahead : CalG P w K mg base CX0 2 "_is_ahead" spIsAhead)
    (hr : Room 2 (A.deeper (envOfC "_values_ahead" (defScope s__values_ahead) s.heap.objs.size f cdv))) (gd : (A.deeper (envOfC "_values_ahead" (defScope s__values_ahead) s.heap.objs.size f cdv)).guards = some []) :
    PSs (cxOf CX0 P w K mg base N__values_ahead "_values_ahead" (defScope s__values_ahead) f cdv A outer s H E).nox (defBody s__values_ahead) (t__values_ahead K) :=
  (pss_cons (ps_set (i := 2) sc__values_ahead.nd rfl (by first | exact Or.inl rfl | exact Or.inr rfl) (pe_g g_spans_of hr (by decide) gd pass0 (by rfl) (pa_cons (pv 0) pa_nil)))
      (pss_one (ps_ret (pe_lock (pe_dc (own := [("value", 3)]) (g := (gName 3)) (tt := tYes) rfl sc__values_ahead.nd (pi_keys (pv 2)) (blkOk_by (N := N__values_ahead) (sc := defScope s__values_ahead) (by decide +kernel)) (fun _ _ _ _ _ => (pg_name (i := 3) sc__values_ahead.nd rfl (by first | exact Or.inl rfl | exact Or.inr rfl))) (fun _ _ _ _ _ => pts_nil) (fun _ _ _ _ _ => (pv 3)) (fun _ _ _ _ _ => (pe_lc (own := [("other", 4)]) (g := (gName 4)) (tt := (tB (tCall spIsAhead [] E0 (tCons (tVar 2) (tCons (tVar 1) (tCons (tVar 4) (tCons (tVar 3) tNil))))))) rfl sc__values_ahead.nd (pi_keys (pv 2)) (blkOk_by (by with_unfolding_all rfl)) (fun _ _ _ _ _ => (pg_name (i := 4) sc__values_ahead.nd rfl (by first | exact Or.inl rfl | exact Or.inr rfl))) (fun _ _ _ _ _ => (pts_one (pt_val (pe_g g__is_ahead hr (by decide) gd pass0 (by rfl) (pa_cons (pv 2) (pa_cons (pv 1) (pa_cons (pv 4) (pa_cons (pv 3) pa_nil)))))))) (fun _ _ _ _ _ => (pv 4)))))))))

theorem ok__values_ahead {f : Addr} {fd : FuncData} (F : Fun K "_values_ahead" "_values_ahead" s__values_ahead f fd)
    (g_spans_of : CalG P w K mg base CX0 2 "spans_of" spSpansD)
    (g__is_ahead : CalG P w K mg base CX0 2 "_is_ahead" spIsAhead) :
    FnG P w K mg base CX0 3 f fd ["log", "tolerance"] spAheadV :=
  fn_g F sc__values_ahead (fun vs H Q E h => spAheadV_arity h) (fun cdv A outer s H vs Q E hr gd0 h => ⟨t__values_ahead K, PSs.nox (der__values_ahead g_spans_of g__is_ahead hr gd0), pure__values_ahead h⟩)

abbrev s__within_two_steps : Stmt := topS 41
abbrev N__within_two_steps : List Str := ["table", "value", "found", "between", "other"]
theorem sc__within_two_steps : FnScope N__within_two_steps ["table", "value"] (defScope s__within_two_steps) := ⟨rfl, rfl, rfl, by decide +kernel, rfl, by decide +kernel, by decide +kernel⟩

theorem der__within_two_steps {f : Addr} {cdv : Value} {A : Around} {outer : List Env} {s : Shared} {H : Hp} {E : XK}
    (n_set : mg "set" = none)
    (n_sorted : mg "sorted" = none)
    (hr : Room 0 (A.deeper (envOfC "_within_two_steps" (defScope s__within_two_steps) s.heap.objs.size f cdv))) (gd : (A.deeper (envOfC "_within_two_steps" (defScope s__within_two_steps) s.heap.objs.size f cdv)).guards = some []) :
    PSs (cxOf CX0 P w K mg base N__within_two_steps "_within_two_steps" (defScope s__within_two_steps) f cdv A outer s H E).nox (defBody s__within_two_steps) (t__within_two_steps K w) :=
  (pss_cons (ps_set (i := 2) sc__within_two_steps.nd rfl (by first | exact Or.inl rfl | exact Or.inr rfl) (pe_callTy0 cr_set0 (by rfl) n_set (by decide +kernel)))
      (pss_cons (ps_for PassesOwn.never rfl (pi_seq (pe_dget (hu_of hr) (pv 0) (pv 1) (fun _ _ => rfl))) (pg_name (i := 3) sc__within_two_steps.nd rfl (by first | exact Or.inl rfl | exact Or.inr rfl))
      (pss_cons (ps_expr (pe_sadd (pv 2) (pa_cons (pv 3) pa_nil)))
      (pss_one (ps_for PassesOwn.never rfl (pi_seq (pe_dget (hu_of hr) (pv 0) (pv 3) (fun _ _ => rfl))) (pg_name (i := 4) sc__within_two_steps.nd rfl (by first | exact Or.inl rfl | exact Or.inr rfl))
      (pss_one (ps_expr (pe_sadd (pv 2) (pa_cons (pv 4) pa_nil))))))))
      (pss_one (ps_ret (pe_callB (cr_sortS rfl) (by rfl) n_sorted (by decide +kernel) (pa_cons (pv 2) pa_nil))))))

theorem ok__within_two_steps {f : Addr} {fd : FuncData} (F : Fun K "_within_two_steps" "_within_two_steps" s__within_two_steps f fd)
    (n_set : mg "set" = none)
    (n_sorted : mg "sorted" = none) :
    FnG P w K mg base CX0 1 f fd ["table", "value"] spTwo :=
  fn_g F sc__within_two_steps (fun vs H Q E h => spTwo_arity h) (fun cdv A outer s H vs Q E hr gd0 h => ⟨t__within_two_steps K w, PSs.nox (der__within_two_steps n_set n_sorted hr gd0), pure__within_two_steps h⟩)

abbrev s__preceding : Stmt := topS 38
abbrev N__preceding : List Str := ["log", "tolerance", "value"]
theorem sc__preceding : FnScope N__preceding ["log", "tolerance", "value"] (defScope s__preceding) := ⟨rfl, rfl, rfl, by decide +kernel, rfl, by decide +kernel, by decide +kernel⟩

theorem der__preceding {f : Addr} {cdv : Value} {A : Around} {outer : List Env} {s : Shared} {H : Hp} {E : XK}
    (g__within_two_steps : CalG P w K mg base CX0 1 "_within_two_steps" spTwo)
    (g__values_ahead : CalG P w K mg base CX0 3 "_values_ahead" spAheadV)
    (hr : Room 3 (A.deeper (envOfC "_preceding" (defScope s__preceding) s.heap.objs.size f cdv))) (gd : (A.deeper (envOfC "_preceding" (defScope s__preceding) s.heap.objs.size f cdv)).guards = some []) :
    PSs (cxOf CX0 P w K mg base N__preceding "_preceding" (defScope s__preceding) f cdv A outer s H E).nox (defBody s__preceding) (t__preceding K) :=
  (pss_one (ps_ret (pe_g g__within_two_steps hr (by decide) gd pass0 (by rfl) (pa_cons (pe_g g__values_ahead hr (by decide) gd pass0 (by rfl) (pa_cons (pv 0) (pa_cons (pv 1) pa_nil))) (pa_cons (pv 2) pa_nil)))))

theorem ok__preceding {f : Addr} {fd : FuncData} (F : Fun K "_preceding" "_preceding" s__preceding f fd)
    (g__within_two_steps : CalG P w K mg base CX0 1 "_within_two_steps" spTwo)
    (g__values_ahead : CalG P w K mg base CX0 3 "_values_ahead" spAheadV) :
    FnG P w K mg base CX0 4 f fd ["log", "tolerance", "value"] spPreceding :=
  fn_g F sc__preceding (fun vs H Q E h => spPreceding_arity h) (fun cdv A outer s H vs Q E hr gd0 h => ⟨t__preceding K, PSs.nox (der__preceding g__within_two_steps g__values_ahead hr gd0), pure__preceding h⟩)

abbrev s_must_precede : Stmt := topS 37
abbrev N_must_precede : List Str := ["log", "tolerance", "one", "other"]
theorem sc_must_precede : FnScope N_must_precede ["log", "tolerance", "one", "other"] (defScope s_must_precede) := ⟨rfl, rfl, rfl, by decide +kernel, rfl, by decide +kernel, by decide +kernel⟩

theorem der_must_precede {f : Addr} {cdv : Value} {A : Around} {outer : List Env} {s : Shared} {H : Hp} {E : XK}
    (g_demand_explained : CalG P w K mg base CX0 12 "demand_explained" spDemandE)
    (g_demand_value : CalG P w K mg base CX0 3 "demand_value" spDemand)
    (g__preceding : CalG P w K mg base CX0 4 "_preceding" spPreceding)
    (hr : Room 12 (A.deeper (envOfC "must_precede" (defScope s_must_precede) s.heap.objs.size f cdv))) (gd : (A.deeper (envOfC "must_precede" (defScope s_must_precede) s.heap.objs.size f cdv)).guards = some []) :
    PSs (cxOf CX0 P w K mg base N_must_precede "must_precede" (defScope s_must_precede) f cdv A outer s H E).nox (defBody s_must_precede) (t_must_precede K) :=
  (pss_cons (ps_expr (pe_g g_demand_explained hr (by decide) gd pass0 (by rfl) (pa_cons (pv 0) (pa_cons (pv 1) pa_nil))))
      (pss_cons (ps_expr (pe_g g_demand_value hr (by decide) gd pass0 (by rfl) (pa_cons (pv 0) (pa_cons (pv 2) pa_nil))))
      (pss_cons (ps_expr (pe_g g_demand_value hr (by decide) gd pass0 (by rfl) (pa_cons (pv 0) (pa_cons (pv 3) pa_nil))))
      (pss_one (ps_ret (pe_cmpR (op_inA (units65 hr)) (pv 2) (pe_g g__preceding hr (by decide) gd pass0 (by rfl) (pa_cons (pv 0) (pa_cons (pv 1) (pa_cons (pv 3) pa_nil)))) (by rfl)))))))

theorem ok_must_precede {f : Addr} {fd : FuncData} (F : Fun K "must_precede" "must_precede" s_must_precede f fd)
    (g_demand_explained : CalG P w K mg base CX0 12 "demand_explained" spDemandE)
    (g_demand_value : CalG P w K mg base CX0 3 "demand_value" spDemand)
    (g__preceding : CalG P w K mg base CX0 4 "_preceding" spPreceding) :
    FnG P w K mg base CX0 13 f fd ["log", "tolerance", "one", "other"] spMust :=
  fn_g F sc_must_precede (fun vs H Q E h => spMust_arity h) (fun cdv A outer s H vs Q E hr gd0 h => ⟨t_must_precede K, PSs.nox (der_must_precede g_demand_explained g_demand_value g__preceding hr gd0), pure_must_precede h⟩)

abbrev s__law_draw : Stmt := topS 44
abbrev N__law_draw : List Str := ["_law_pot_here", "_law_many", "_law_digit", "_law_prime", "_law_mixed_here"]
theorem sc__law_draw : FnScope N__law_draw ["_law_pot_here", "_law_many"] (defScope s__law_draw) := ⟨rfl, rfl, rfl, by decide +kernel, rfl, by decide +kernel, by decide +kernel⟩

theorem der__law_draw {f : Addr} {cdv : Value} {A : Around} {outer : List Env} {s : Shared} {H : Hp} {E : XK}
    
    (hr : Room 0 (A.deeper (envOfC "_law_draw" (defScope s__law_draw) s.heap.objs.size f cdv))) (gd : (A.deeper (envOfC "_law_draw" (defScope s__law_draw) s.heap.objs.size f cdv)).guards = some []) :
    PSs (cxOf CX0 P w K mg base N__law_draw "_law_draw" (defScope s__law_draw) f cdv A outer s H E).nox (defBody s__law_draw) (t__law_draw K) :=
  (pss_cons (ps_if (pt_cmpR op_gt (pe_ix ix_seq (pv 0) pe_int (fun _ _ => rfl)) pe_int (nomark _))
      (pss_cons (ps_set (i := 2) sc__law_draw.nd rfl (by first | exact Or.inl rfl | exact Or.inr rfl) (pe_op op_modN (pe_ix ix_seq (pv 0) pe_int (fun _ _ => rfl)) (pv 1)))
      (pss_cons (ps_asg (pe_op op_fdivN (pe_ix ix_seq (pv 0) pe_int (fun _ _ => rfl)) (pv 1)) (pg_sub (pv 0) pe_int set_list))
      (pss_one (ps_ret (pv 2))))) pss_nil)
      (pss_cons (ps_asg (pe_op op_addA (pe_ix ix_seq (pv 0) pe_int (fun _ _ => rfl)) pe_int) (pg_sub (pv 0) pe_int set_list))
      (pss_cons (ps_set (i := 3) sc__law_draw.nd rfl (by first | exact Or.inl rfl | exact Or.inr rfl) (pe_ix ix_seq (pe_lst (pa_cons pe_int (pa_cons pe_int (pa_cons pe_int (pa_cons pe_int (pa_cons pe_int pa_nil)))))) (pe_op op_modN (pe_ix ix_seq (pv 0) pe_int (fun _ _ => rfl)) pe_int) (fun _ _ => rfl)))
      (pss_cons (ps_set (i := 4) sc__law_draw.nd rfl (by first | exact Or.inl rfl | exact Or.inr rfl) (pe_op op_modN (pe_op op_powW (pe_op op_addA (pe_op op_addA (pe_ix ix_seq (pv 0) pe_int (fun _ _ => rfl)) (pe_op op_mulA (pe_op op_mulA pe_int (pe_ix ix_seq (pv 0) pe_int (fun _ _ => rfl))) (pe_ix ix_seq (pv 0) pe_int (fun _ _ => rfl)))) pe_int) pe_int) (pv 3)))
      (pss_one (ps_ret (pe_op op_modN (pe_op op_fdivN (pe_op op_modN (pe_op op_mulA (pv 4) (pe_op op_addA (pe_op op_modN (pv 4) pe_int) (pe_op op_mulA pe_int (pe_ix ix_seq (pv 0) pe_int (fun _ _ => rfl))))) pe_int) pe_int) (pv 1))))))))

theorem ok__law_draw {f : Addr} {fd : FuncData} (F : Fun K "_law_draw" "_law_draw" s__law_draw f fd)
     :
    FnG P w K mg base CX0 1 f fd ["_law_pot_here", "_law_many"] spDraw :=
  fn_g F sc__law_draw (fun vs H Q E h => spDraw_arity h) (fun cdv A outer s H vs Q E hr gd0 h => ⟨t__law_draw K, PSs.nox (der__law_draw  hr gd0), pure__law_draw h⟩)

abbrev s__law_pot : Stmt := topS 43
abbrev N__law_pot : List Str := ["_law_script", "_law_k", "_law_cell", "_law_own"]
theorem sc__law_pot : FnScope N__law_pot ["_law_script", "_law_k"] (defScope s__law_pot) := ⟨rfl, rfl, rfl, by decide +kernel, rfl, by decide +kernel, by decide +kernel⟩

theorem der__law_pot {f : Addr} {cdv : Value} {A : Around} {outer : List Env} {s : Shared} {H : Hp} {E : XK}
    (n_len : mg "len" = none)
    (n_int : mg "int" = none)
    (n_abs : mg "abs" = none)
    (hr : Room 0 (A.deeper (envOfC "_law_pot" (defScope s__law_pot) s.heap.objs.size f cdv))) (gd : (A.deeper (envOfC "_law_pot" (defScope s__law_pot) s.heap.objs.size f cdv)).guards = some []) :
    PSs (cxOf CX0 P w K mg base N__law_pot "_law_pot" (defScope s__law_pot) f cdv A outer s H E).nox (defBody s__law_pot) (t__law_pot K) :=
  (pss_cons (ps_set (i := 2) sc__law_pot.nd rfl (by first | exact Or.inl rfl | exact Or.inr rfl) (pe_op op_addA (pe_op op_mulA pe_int (pv 1)) pe_int))
      (pss_cons (ps_if (pt_cmpR op_lt (pv 1) (pe_callB call_len (by rfl) n_len (by decide +kernel) (pa_cons (pv 0) pa_nil)) (nomark _))
      (pss_one (ps_set (i := 2) sc__law_pot.nd rfl (by first | exact Or.inl rfl | exact Or.inr rfl) (pe_ix ix_seq (pv 0) (pv 1) (fun _ _ => rfl)))) pss_nil)
      (pss_cons (ps_set (i := 3) sc__law_pot.nd rfl (by first | exact Or.inl rfl | exact Or.inr rfl) (pe_op op_mulA (pe_op op_modN (pe_callB call_abs (by rfl) n_abs (by decide +kernel) (pa_cons (pv 2) pa_nil)) (pe_op op_powW (pe_op op_powW pe_int pe_int) pe_int)) (pe_callTy call_int1 (by rfl) n_int (by decide +kernel) (pa_cons (pe_cmpR op_ge (pe_callB call_abs (by rfl) n_abs (by decide +kernel) (pa_cons (pv 2) pa_nil)) (pe_op op_powW pe_int pe_int) (nomark _)) pa_nil))))
      (pss_one (ps_ret (pe_lst (pa_cons (pv 3) (pa_cons (pe_op op_modN (pe_op op_addA (pe_op op_addA (pe_op op_mulA (pe_op op_modN (pv 2) pe_int) pe_int) (pe_op op_mulA (pe_op op_mulA pe_int (pv 1)) (pv 1))) pe_int) pe_int) (pa_cons pe_int pa_nil)))))))))

theorem ok__law_pot {f : Addr} {fd : FuncData} (F : Fun K "_law_pot" "_law_pot" s__law_pot f fd)
    (n_len : mg "len" = none)
    (n_int : mg "int" = none)
    (n_abs : mg "abs" = none) :
    FnG P w K mg base CX0 1 f fd ["_law_script", "_law_k"] (spPot K) :=
  fn_g F sc__law_pot (fun vs H Q E h => spPot_arity h) (fun cdv A outer s H vs Q E hr gd0 h => ⟨t__law_pot K, PSs.nox (der__law_pot n_len n_int n_abs hr gd0), pure__law_pot h⟩)

abbrev s__law_any : Stmt := topS 45
abbrev N__law_any : List Str := ["_law_pot_here", "_law_items"]
theorem sc__law_any : FnScope N__law_any ["_law_pot_here", "_law_items"] (defScope s__law_any) := ⟨rfl, rfl, rfl, by decide +kernel, rfl, by decide +kernel, by decide +kernel⟩

theorem der__law_any {f : Addr} {cdv : Value} {A : Around} {outer : List Env} {s : Shared} {H : Hp} {E : XK}
    (g__law_draw : CalG P w K mg base CX0 1 "_law_draw" spDraw)
    (n_len : mg "len" = none)
    (hr : Room 1 (A.deeper (envOfC "_law_any" (defScope s__law_any) s.heap.objs.size f cdv))) (gd : (A.deeper (envOfC "_law_any" (defScope s__law_any) s.heap.objs.size f cdv)).guards = some []) :
    PSs (cxOf CX0 P w K mg base N__law_any "_law_any" (defScope s__law_any) f cdv A outer s H E).nox (defBody s__law_any) (t__law_any K) :=
  (pss_one (ps_ret (pe_ix ix_seq (pv 1) (pe_g g__law_draw hr (by decide) gd pass0 (by rfl) (pa_cons (pv 0) (pa_cons (pe_callB call_len (by rfl) n_len (by decide +kernel) (pa_cons (pv 1) pa_nil)) pa_nil))) (fun _ _ => rfl))))

theorem ok__law_any {f : Addr} {fd : FuncData} (F : Fun K "_law_any" "_law_any" s__law_any f fd)
    (g__law_draw : CalG P w K mg base CX0 1 "_law_draw" spDraw)
    (n_len : mg "len" = none) :
    FnG P w K mg base CX0 2 f fd ["_law_pot_here", "_law_items"] (spAny K) :=
  fn_g F sc__law_any (fun vs H Q E h => spAny_arity h) (fun cdv A outer s H vs Q E hr gd0 h => ⟨t__law_any K, PSs.nox (der__law_any g__law_draw n_len hr gd0), pure__law_any h⟩)

abbrev s__law_mixed : Stmt := topS 46
abbrev N__law_mixed : List Str := ["_law_pot_here", "_law_items", "_law_left", "_law_found"]
theorem sc__law_mixed : FnScope N__law_mixed ["_law_pot_here", "_law_items"] (defScope s__law_mixed) := ⟨rfl, rfl, rfl, by decide +kernel, rfl, by decide +kernel, by decide +kernel⟩

theorem der__law_mixed {f : Addr} {cdv : Value} {A : Around} {outer : List Env} {s : Shared} {H : Hp} {E : XK}
    (g__law_draw : CalG P w K mg base CX0 1 "_law_draw" spDraw)
    (n_list : mg "list" = none)
    (n_len : mg "len" = none)
    (hr : Room 1 (A.deeper (envOfC "_law_mixed" (defScope s__law_mixed) s.heap.objs.size f cdv))) (gd : (A.deeper (envOfC "_law_mixed" (defScope s__law_mixed) s.heap.objs.size f cdv)).guards = some []) :
    PSs (cxOf CX0 P w K mg base N__law_mixed "_law_mixed" (defScope s__law_mixed) f cdv A outer s H E).nox (defBody s__law_mixed) (t__law_mixed K) :=
  (pss_cons (ps_par (i := 2) (j := 3) (by rfl) sc__law_mixed.nd rfl rfl (by decide) rfl rfl (pa_cons (pe_callTy call_list_of (by rfl) n_list (by decide +kernel) (pa_cons (pv 1) pa_nil)) (pa_cons (pe_lst pa_nil) pa_nil)) (by rfl))
      (pss_cons (ps_while PassesOwn.never (pt_cmpR (op_neA (units65 hr)) (pv 2) (pe_lst pa_nil) (nomark _))
      (pss_one (ps_expr (pe_bm PySem.F.plainAttrs_list PySem.F.slot_list_append PySem.F.type_list_append mt_append (pv 3) (pa_cons (pe_bm PySem.F.plainAttrs_list PySem.F.slot_list_pop PySem.F.type_list_pop mt_popA (pv 2) (pa_cons (pe_g g__law_draw hr (by decide) gd pass0 (by rfl) (pa_cons (pv 0) (pa_cons (pe_callB call_len (by rfl) n_len (by decide +kernel) (pa_cons (pv 2) pa_nil)) pa_nil))) pa_nil)) pa_nil)))))
      (pss_one (ps_ret (pv 3)))))

theorem ok__law_mixed {f : Addr} {fd : FuncData} (F : Fun K "_law_mixed" "_law_mixed" s__law_mixed f fd)
    (g__law_draw : CalG P w K mg base CX0 1 "_law_draw" spDraw)
    (n_list : mg "list" = none)
    (n_len : mg "len" = none) :
    FnG P w K mg base CX0 2 f fd ["_law_pot_here", "_law_items"] (spMixed K) :=
  fn_g F sc__law_mixed (fun vs H Q E h => spMixed_arity h) (fun cdv A outer s H vs Q E hr gd0 h => ⟨t__law_mixed K, PSs.nox (der__law_mixed g__law_draw n_list n_len hr gd0), pure__law_mixed h⟩)

abbrev s__law_wild : Stmt := topS 47
abbrev N__law_wild : List Str := ["_law_pot_here", "_law_most", "_law_room", "_law_found", "_law_written", "_law_turn", "_law_kind", "_law_value", "_law_begin", "_law_some"]
theorem sc__law_wild : FnScope N__law_wild ["_law_pot_here", "_law_most", "_law_room"] (defScope s__law_wild) := ⟨rfl, rfl, rfl, by decide +kernel, rfl, by decide +kernel, by decide +kernel⟩

theorem der__law_wild {f : Addr} {cdv : Value} {A : Around} {outer : List Env} {s : Shared} {H : Hp} {E : XK}
    (g__law_draw : CalG P w K mg base CX0 1 "_law_draw" spDraw)
    (g__law_mixed : CalG P w K mg base CX0 2 "_law_mixed" (spMixed K))
    (g__law_any : CalG P w K mg base CX0 2 "_law_any" (spAny K))
    (n_range : mg "range" = none)
    (n_tuple : mg "tuple" = none)
    (hr : Room 2 (A.deeper (envOfC "_law_wild" (defScope s__law_wild) s.heap.objs.size f cdv))) (gd : (A.deeper (envOfC "_law_wild" (defScope s__law_wild) s.heap.objs.size f cdv)).guards = some []) :
    PSs (cxOf CX0 P w K mg base N__law_wild "_law_wild" (defScope s__law_wild) f cdv A outer s H E).nox (defBody s__law_wild) (t__law_wild K) :=
  (pss_cons (ps_par (i := 3) (j := 4) (by rfl) sc__law_wild.nd rfl rfl (by decide) rfl rfl (pa_cons (pe_lst pa_nil) (pa_cons (pe_lst pa_nil) pa_nil)) (by rfl))
      (pss_cons (ps_for PassesOwn.never rfl (pi_range1 (by rfl) n_range (pa_cons (pe_g g__law_draw hr (by decide) gd pass0 (by rfl) (pa_cons (pv 0) (pa_cons (pe_op op_addA (pv 1) pe_int) pa_nil))) pa_nil)) (pg_name (i := 5) sc__law_wild.nd rfl (by first | exact Or.inl rfl | exact Or.inr rfl))
      (pss_cons (ps_par (i := 6) (j := 7) (by rfl) sc__law_wild.nd rfl rfl (by decide) rfl rfl (pa_cons (pe_g g__law_any hr (by decide) gd pass0 (by rfl) (pa_cons (pv 0) (pa_cons (pe_lst (pa_cons pe_str (pa_cons pe_str (pa_cons pe_str pa_nil)))) pa_nil))) (pa_cons (pe_g g__law_draw hr (by decide) gd pass0 (by rfl) (pa_cons (pv 0) (pa_cons pe_int pa_nil))) pa_nil)) (by rfl))
      (pss_cons (ps_set (i := 8) sc__law_wild.nd rfl (by first | exact Or.inl rfl | exact Or.inr rfl) (pe_g g__law_draw hr (by decide) gd pass0 (by rfl) (pa_cons (pv 0) (pa_cons (pv 2) pa_nil))))
      (pss_one (ps_if (PW.pt (pw_and (pt_cmpR (op_eqA (units65 hr)) (pv 6) pe_str (nomark _)) (pw_and (pt_cmpR op_gt (pv 7) pe_int (nomark _)) (pw_and1 (pt_cmpR (op_niA (units65 hr)) (pv 7) (pv 4) (by rfl))))))
      (pss_cons (ps_expr (pe_bm PySem.F.plainAttrs_list PySem.F.slot_list_append PySem.F.type_list_append mt_append (pv 4) (pa_cons (pv 7) pa_nil)))
      (pss_one (ps_expr (pe_bm PySem.F.plainAttrs_list PySem.F.slot_list_append PySem.F.type_list_append mt_append (pv 3) (pa_cons (pe_tup (pa_cons pe_str (pa_cons (pv 7) (pa_cons (pv 8) (pa_cons (pe_op op_addA (pv 8) (pe_g g__law_draw hr (by decide) gd pass0 (by rfl) (pa_cons (pv 0) (pa_cons (pe_op op_addA (pe_op op_fdivN (pv 2) pe_int) pe_int) pa_nil)))) pa_nil))))) pa_nil))))) (pss_cons (ps_set (i := 9) sc__law_wild.nd rfl (by first | exact Or.inl rfl | exact Or.inr rfl) (pe_op op_addA (pv 4) (pe_lst (pa_cons pe_int pa_nil))))
      (pss_cons (ps_set (i := 7) sc__law_wild.nd rfl (by first | exact Or.inl rfl | exact Or.inr rfl) (pe_g g__law_any hr (by decide) gd pass0 (by rfl) (pa_cons (pv 0) (pa_cons (pe_op op_addA (pe_op op_addA (pv 9) (pv 9)) (pe_lst (pa_cons (pv 7) pa_nil))) pa_nil))))
      (pss_one (ps_expr (pe_bm PySem.F.plainAttrs_list PySem.F.slot_list_append PySem.F.type_list_append mt_append (pv 3) (pa_cons (pe_tup (pa_cons pe_str (pa_cons (pv 7) (pa_cons (pv 8) (pa_cons (pe_op op_addA (pv 8) (pe_g g__law_draw hr (by decide) gd pass0 (by rfl) (pa_cons (pv 0) (pa_cons (pe_op op_addA (pe_op op_fdivN (pv 2) pe_int) pe_int) pa_nil)))) pa_nil))))) pa_nil)))))))))))
      (pss_one (ps_ret (pe_callTy call_tuple_of (by rfl) n_tuple (by decide +kernel) (pa_cons (pe_g g__law_mixed hr (by decide) gd pass0 (by rfl) (pa_cons (pv 0) (pa_cons (pv 3) pa_nil))) pa_nil))))))

theorem ok__law_wild {f : Addr} {fd : FuncData} (F : Fun K "_law_wild" "_law_wild" s__law_wild f fd)
    (g__law_draw : CalG P w K mg base CX0 1 "_law_draw" spDraw)
    (g__law_mixed : CalG P w K mg base CX0 2 "_law_mixed" (spMixed K))
    (g__law_any : CalG P w K mg base CX0 2 "_law_any" (spAny K))
    (n_range : mg "range" = none)
    (n_tuple : mg "tuple" = none) :
    FnG P w K mg base CX0 3 f fd ["_law_pot_here", "_law_most", "_law_room"] spWild :=
  fn_g F sc__law_wild (fun vs H Q E h => spWild_arity h) (fun cdv A outer s H vs Q E hr gd0 h => ⟨t__law_wild K, PSs.nox (der__law_wild g__law_draw g__law_mixed g__law_any n_range n_tuple hr gd0), pure__law_wild h⟩)

abbrev s__law_true : Stmt := topS 48
abbrev N__law_true : List Str := ["_law_pot_here", "_law_many", "_law_off", "_law_step", "_law_found", "_law_value", "_law_time", "_law_names", "_law_turn", "_law_kind", "_law_ends_here", "_law_begin", "_law_end"]
theorem sc__law_true : FnScope N__law_true ["_law_pot_here", "_law_many", "_law_off", "_law_step"] (defScope s__law_true) := ⟨rfl, rfl, rfl, by decide +kernel, rfl, by decide +kernel, by decide +kernel⟩

theorem der__law_true {f : Addr} {cdv : Value} {A : Around} {outer : List Env} {s : Shared} {H : Hp} {E : XK}
    (g__law_mixed : CalG P w K mg base CX0 2 "_law_mixed" (spMixed K))
    (g__law_any : CalG P w K mg base CX0 2 "_law_any" (spAny K))
    (g__law_draw : CalG P w K mg base CX0 1 "_law_draw" spDraw)
    (n_range : mg "range" = none)
    (n_tuple : mg "tuple" = none)
    (n_list : mg "list" = none)
    (n_min : mg "min" = none)
    (n_max : mg "max" = none)
    (hr : Room 2 (A.deeper (envOfC "_law_true" (defScope s__law_true) s.heap.objs.size f cdv))) (gd : (A.deeper (envOfC "_law_true" (defScope s__law_true) s.heap.objs.size f cdv)).guards = some []) :
    PSs (cxOf CX0 P w K mg base N__law_true "_law_true" (defScope s__law_true) f cdv A outer s H E).nox (defBody s__law_true) (t__law_true K) :=
  (pss_cons (ps_par3 (i := 4) (j := 5) (l := 6) (by rfl) sc__law_true.nd rfl rfl rfl (by decide) (by decide) (by decide) rfl rfl rfl (pa_cons (pe_lst pa_nil) (pa_cons pe_int (pa_cons (pe_g g__law_any hr (by decide) gd pass0 (by rfl) (pa_cons (pv 0) (pa_cons (pe_lst (pa_cons pe_int (pa_cons (pe_un un_neg pe_int) (pa_cons (pe_op op_powW pe_int pe_int) pa_nil)))) pa_nil))) pa_nil))) (by rfl))
      (pss_cons (ps_set (i := 7) sc__law_true.nd rfl (by first | exact Or.inl rfl | exact Or.inr rfl) (pe_g g__law_mixed hr (by decide) gd pass0 (by rfl) (pa_cons (pv 0) (pa_cons (pe_listRg rfl (by rfl) n_list (prg_2 (by rfl) n_range pe_int (pe_op op_addA (pv 1) pe_int))) pa_nil))))
      (pss_cons (ps_for PassesOwn.never rfl (pi_range1 (by rfl) n_range (pa_cons (pv 1) pa_nil)) (pg_name (i := 8) sc__law_true.nd rfl (by first | exact Or.inl rfl | exact Or.inr rfl))
      (pss_cons (ps_set (i := 6) sc__law_true.nd rfl (by first | exact Or.inl rfl | exact Or.inr rfl) (pe_op op_addA (pv 6) (pe_g g__law_draw hr (by decide) gd pass0 (by rfl) (pa_cons (pv 0) (pa_cons (pe_op op_addA (pv 3) pe_int) pa_nil)))))
      (pss_cons (ps_set (i := 9) sc__law_true.nd rfl (by first | exact Or.inl rfl | exact Or.inr rfl) (pe_g g__law_any hr (by decide) gd pass0 (by rfl) (pa_cons (pv 0) (pa_cons (pe_lst (pa_cons pe_str (pa_cons pe_str (pa_cons pe_str pa_nil)))) pa_nil))))
      (pss_cons (ps_if (pt_cmpR (op_eqA (units65 hr)) (pv 9) pe_str (nomark _))
      (pss_one (ps_set (i := 5) sc__law_true.nd rfl (by first | exact Or.inl rfl | exact Or.inr rfl) (pe_ix ix_seq (pv 7) (pv 8) (fun _ _ => rfl)))) pss_nil)
      (pss_cons (ps_set (i := 10) sc__law_true.nd rfl (by first | exact Or.inl rfl | exact Or.inr rfl) (pe_tup (pa_cons (pe_op op_sub (pv 6) (pe_g g__law_draw hr (by decide) gd pass0 (by rfl) (pa_cons (pv 0) (pa_cons (pe_op op_addA (pv 3) pe_int) pa_nil)))) (pa_cons (pe_op op_addA (pv 6) (pe_g g__law_draw hr (by decide) gd pass0 (by rfl) (pa_cons (pv 0) (pa_cons (pe_op op_addA (pv 3) pe_int) pa_nil)))) pa_nil))))
      (pss_cons (ps_set (i := 11) sc__law_true.nd rfl (by first | exact Or.inl rfl | exact Or.inr rfl) (pe_op op_addA (pe_op op_sub (pe_ix ix_seq (pv 10) pe_int (fun _ _ => rfl)) (pv 2)) (pe_g g__law_draw hr (by decide) gd pass0 (by rfl) (pa_cons (pv 0) (pa_cons (pe_op op_addA (pe_op op_mulA pe_int (pv 2)) pe_int) pa_nil)))))
      (pss_cons (ps_set (i := 12) sc__law_true.nd rfl (by first | exact Or.inl rfl | exact Or.inr rfl) (pe_op op_addA (pe_op op_sub (pe_ix ix_seq (pv 10) pe_int (fun _ _ => rfl)) (pv 2)) (pe_g g__law_draw hr (by decide) gd pass0 (by rfl) (pa_cons (pv 0) (pa_cons (pe_op op_addA (pe_op op_mulA pe_int (pv 2)) pe_int) pa_nil)))))
      (pss_one (ps_expr (pe_bm PySem.F.plainAttrs_list PySem.F.slot_list_append PySem.F.type_list_append mt_append (pv 4) (pa_cons (pe_tup (pa_cons (pv 9) (pa_cons (pv 5) (pa_cons (pe_callB (call_min2 rfl) (by rfl) n_min (by decide +kernel) (pa_cons (pv 11) (pa_cons (pv 12) pa_nil))) (pa_cons (pe_callB (call_max2 rfl) (by rfl) n_max (by decide +kernel) (pa_cons (pv 11) (pa_cons (pv 12) pa_nil))) pa_nil))))) pa_nil)))))))))))
      (pss_one (ps_ret (pe_callTy call_tuple_of (by rfl) n_tuple (by decide +kernel) (pa_cons (pe_g g__law_mixed hr (by decide) gd pass0 (by rfl) (pa_cons (pv 0) (pa_cons (pv 4) pa_nil))) pa_nil)))))))

theorem ok__law_true {f : Addr} {fd : FuncData} (F : Fun K "_law_true" "_law_true" s__law_true f fd)
    (g__law_mixed : CalG P w K mg base CX0 2 "_law_mixed" (spMixed K))
    (g__law_any : CalG P w K mg base CX0 2 "_law_any" (spAny K))
    (g__law_draw : CalG P w K mg base CX0 1 "_law_draw" spDraw)
    (n_range : mg "range" = none)
    (n_tuple : mg "tuple" = none)
    (n_list : mg "list" = none)
    (n_min : mg "min" = none)
    (n_max : mg "max" = none) :
    FnG P w K mg base CX0 3 f fd ["_law_pot_here", "_law_many", "_law_off", "_law_step"] spTrue25 :=
  fn_g F sc__law_true (fun vs H Q E h => spTrue25_arity h) (fun cdv A outer s H vs Q E hr gd0 h => ⟨t__law_true K, PSs.nox (der__law_true g__law_mixed g__law_any g__law_draw n_range n_tuple n_list n_min n_max hr gd0), pure25__law_true h⟩)

abbrev s__law_worths : Stmt := topS 49
abbrev N__law_worths : List Str := ["_law_log", "_law_one"]
theorem sc__law_worths : FnScope N__law_worths ["_law_log"] (defScope s__law_worths) := ⟨rfl, rfl, rfl, by decide +kernel, rfl, by decide +kernel, by decide +kernel⟩

theorem der__law_worths {f : Addr} {cdv : Value} {A : Around} {outer : List Env} {s : Shared} {H : Hp} {E : XK}
    (n_sorted : mg "sorted" = none)
    (n_set : mg "set" = none)
    (hr : Room 0 (A.deeper (envOfC "_law_worths" (defScope s__law_worths) s.heap.objs.size f cdv))) (gd : (A.deeper (envOfC "_law_worths" (defScope s__law_worths) s.heap.objs.size f cdv)).guards = some []) :
    PSs (cxOf CX0 P w K mg base N__law_worths "_law_worths" (defScope s__law_worths) f cdv A outer s H E).nox (defBody s__law_worths) (t__law_worths K) :=
  (pss_one (ps_ret (pe_sortL rfl (by rfl) n_sorted (by rfl) n_set (pe_lc (own := [("_law_one", 1)]) (g := (gName 1)) (tt := tYes) rfl sc__law_worths.nd (pi_seq (pv 0)) (blkOk_by (N := N__law_worths) (sc := defScope s__law_worths) (by decide +kernel)) (fun _ _ _ _ _ => (pg_name (i := 1) sc__law_worths.nd rfl (by first | exact Or.inl rfl | exact Or.inr rfl))) (fun _ _ _ _ _ => pts_nil) (fun _ _ _ _ _ => (pe_ix ix_seq (pv 1) pe_int (fun _ _ => rfl)))))))

theorem ok__law_worths {f : Addr} {fd : FuncData} (F : Fun K "_law_worths" "_law_worths" s__law_worths f fd)
    (n_sorted : mg "sorted" = none)
    (n_set : mg "set" = none) :
    FnG P w K mg base CX0 1 f fd ["_law_log"] spWorths :=
  fn_g F sc__law_worths (fun vs H Q E h => spWorths_arity h) (fun cdv A outer s H vs Q E hr gd0 h => ⟨t__law_worths K, PSs.nox (der__law_worths n_sorted n_set hr gd0), pure__law_worths h⟩)

abbrev s__law_ends : Stmt := topS 50
abbrev N__law_ends : List Str := ["_law_log", "_law_found", "_law_value", "_law_own", "_law_one", "_law_first"]
theorem sc__law_ends : FnScope N__law_ends ["_law_log"] (defScope s__law_ends) := ⟨rfl, rfl, rfl, by decide +kernel, rfl, by decide +kernel, by decide +kernel⟩

theorem der__law_ends {f : Addr} {cdv : Value} {A : Around} {outer : List Env} {s : Shared} {H : Hp} {E : XK}
    (g__law_worths : CalG P w K mg base CX0 1 "_law_worths" spWorths)
    (n_min : mg "min" = none)
    (n_max : mg "max" = none)
    (hr : Room 1 (A.deeper (envOfC "_law_ends" (defScope s__law_ends) s.heap.objs.size f cdv))) (gd : (A.deeper (envOfC "_law_ends" (defScope s__law_ends) s.heap.objs.size f cdv)).guards = some []) :
    PSs (cxOf CX0 P w K mg base N__law_ends "_law_ends" (defScope s__law_ends) f cdv A outer s H E).nox (defBody s__law_ends) (t__law_ends K) :=
  (pss_cons (ps_set (i := 1) sc__law_ends.nd rfl (by first | exact Or.inl rfl | exact Or.inr rfl) pe_dnewK)
      (pss_cons (ps_for PassesOwn.never rfl (pi_seq (pe_g g__law_worths hr (by decide) gd pass0 (by rfl) (pa_cons (pv 0) pa_nil))) (pg_name (i := 2) sc__law_ends.nd rfl (by first | exact Or.inl rfl | exact Or.inr rfl))
      (pss_cons (ps_setLc (i := 3) (own := [("_law_one", 4)]) (g := (gName 4)) (tt := (tTest (tOp (rEqA K) (tOp (rIx K) (tVar 4) (tC (V.int 1))) (tVar 2)))) rfl sc__law_ends.nd rfl rfl (sw_true rfl rfl rfl (by decide +kernel)) (pi_seq (pv 0)) (blkOk_by (N := N__law_ends) (sc := defScope s__law_ends) (by decide +kernel)) (fun _ _ _ _ _ => (pg_name (i := 4) sc__law_ends.nd rfl (by first | exact Or.inl rfl | exact Or.inr rfl))) (fun _ _ _ _ _ => (pts_one (pt_cmpR (op_eqA (units65 hr)) (pe_ix ix_seq (pv 4) pe_int (fun _ _ => rfl)) (pv 2) (nomark _)))) (fun _ _ _ _ _ => (pv 4)))
      (pss_cons (ps_set (i := 5) sc__law_ends.nd rfl (by first | exact Or.inl rfl | exact Or.inr rfl) (pe_ifExp (pt_cmpR op_gt (pv 2) pe_int (nomark _)) (pe_callB (cr_min rfl) (by rfl) n_min (by decide +kernel) (pa_cons (pe_lc (own := [("_law_one", 4)]) (g := (gName 4)) (tt := tYes) rfl sc__law_ends.nd (pi_seq (pv 3)) (blkOk_by (N := N__law_ends) (sc := defScope s__law_ends) (by decide +kernel)) (fun _ _ _ _ _ => (pg_name (i := 4) sc__law_ends.nd rfl (by first | exact Or.inl rfl | exact Or.inr rfl))) (fun _ _ _ _ _ => pts_nil) (fun _ _ _ _ _ => (pe_ix ix_seq (pv 4) pe_int (fun _ _ => rfl)))) pa_nil)) (pe_un un_neg (pe_op op_powW pe_int pe_int))))
      (pss_one (ps_dput (hu_of hr) (pv 1) (pv 2) (pe_tup (pa_cons (pv 5) (pa_cons (pe_callB (cr_max rfl) (by rfl) n_max (by decide +kernel) (pa_cons (pe_lc (own := [("_law_one", 4)]) (g := (gName 4)) (tt := tYes) rfl sc__law_ends.nd (pi_seq (pv 3)) (blkOk_by (N := N__law_ends) (sc := defScope s__law_ends) (by decide +kernel)) (fun _ _ _ _ _ => (pg_name (i := 4) sc__law_ends.nd rfl (by first | exact Or.inl rfl | exact Or.inr rfl))) (fun _ _ _ _ _ => pts_nil) (fun _ _ _ _ _ => (pe_ix ix_seq (pv 4) pe_int (fun _ _ => rfl)))) pa_nil)) pa_nil))) rfl)))))
      (pss_one (ps_ret (pv 1)))))

theorem ok__law_ends {f : Addr} {fd : FuncData} (F : Fun K "_law_ends" "_law_ends" s__law_ends f fd)
    (g__law_worths : CalG P w K mg base CX0 1 "_law_worths" spWorths)
    (n_min : mg "min" = none)
    (n_max : mg "max" = none) :
    FnG P w K mg base CX0 2 f fd ["_law_log"] spEndsL :=
  fn_g F sc__law_ends (fun vs H Q E h => spEndsL_arity h) (fun cdv A outer s H vs Q E hr gd0 h => ⟨t__law_ends K, PSs.nox (der__law_ends g__law_worths n_min n_max hr gd0), pure__law_ends h⟩)

abbrev s__law_lost : Stmt := topS 51
abbrev N__law_lost : List Str := ["_law_log", "_law_written", "_law_one", "_law_value"]
theorem sc__law_lost : FnScope N__law_lost ["_law_log"] (defScope s__law_lost) := ⟨rfl, rfl, rfl, by decide +kernel, rfl, by decide +kernel, by decide +kernel⟩

theorem der__law_lost {f : Addr} {cdv : Value} {A : Around} {outer : List Env} {s : Shared} {H : Hp} {E : XK}
    (g__law_worths : CalG P w K mg base CX0 1 "_law_worths" spWorths)
    (hr : Room 1 (A.deeper (envOfC "_law_lost" (defScope s__law_lost) s.heap.objs.size f cdv))) (gd : (A.deeper (envOfC "_law_lost" (defScope s__law_lost) s.heap.objs.size f cdv)).guards = some []) :
    PSs (cxOf CX0 P w K mg base N__law_lost "_law_lost" (defScope s__law_lost) f cdv A outer s H E).nox (defBody s__law_lost) (t__law_lost K) :=
  (pss_cons (ps_set (i := 1) sc__law_lost.nd rfl (by first | exact Or.inl rfl | exact Or.inr rfl) (pe_lc (own := [("_law_one", 2)]) (g := (gName 2)) (tt := (tTest (tOp (rEqA K) (tOp (rIx K) (tVar 2) (tC (V.int 0))) (tC (V.str "write"))))) rfl sc__law_lost.nd (pi_seq (pv 0)) (blkOk_by (N := N__law_lost) (sc := defScope s__law_lost) (by decide +kernel)) (fun _ _ _ _ _ => (pg_name (i := 2) sc__law_lost.nd rfl (by first | exact Or.inl rfl | exact Or.inr rfl))) (fun _ _ _ _ _ => (pts_one (pt_cmpR (op_eqA (units65 hr)) (pe_ix ix_seq (pv 2) pe_int (fun _ _ => rfl)) pe_str (nomark _)))) (fun _ _ _ _ _ => (pe_ix ix_seq (pv 2) pe_int (fun _ _ => rfl)))))
      (pss_one (ps_ret (pe_lc (own := [("_law_value", 3)]) (g := (gName 3)) (tt := (tAnd (tTest (tOp rGtI (tVar 3) (tC (V.int 0)))) (tTest (tOp (rNiA K) (tVar 3) (tVar 1))))) rfl sc__law_lost.nd (pi_seq (pe_g g__law_worths hr (by decide) gd pass0 (by rfl) (pa_cons (pv 0) pa_nil))) (blkOk_by (N := N__law_lost) (sc := defScope s__law_lost) (by decide +kernel)) (fun _ _ _ _ _ => (pg_name (i := 3) sc__law_lost.nd rfl (by first | exact Or.inl rfl | exact Or.inr rfl))) (fun _ _ _ _ _ => (pts_one (PW.pt (pw_and (pt_cmpR op_gt (pv 3) pe_int (nomark _)) (pw_and1 (pt_cmpR (op_niA (units65 hr)) (pv 3) (pv 1) (by rfl))))))) (fun _ _ _ _ _ => (pv 3))))))

theorem ok__law_lost {f : Addr} {fd : FuncData} (F : Fun K "_law_lost" "_law_lost" s__law_lost f fd)
    (g__law_worths : CalG P w K mg base CX0 1 "_law_worths" spWorths) :
    FnG P w K mg base CX0 2 f fd ["_law_log"] spLost :=
  fn_g F sc__law_lost (fun vs H Q E h => spLost_arity h) (fun cdv A outer s H vs Q E hr gd0 h => ⟨t__law_lost K, PSs.nox (der__law_lost g__law_worths hr gd0), pure__law_lost h⟩)

abbrev s__law_gaps : Stmt := topS 52
abbrev N__law_gaps : List Str := ["_law_log", "_law_ends_here", "_law_found", "_law_writes", "_law_one", "_law_some", "_law_value", "_law_at", "_law_other"]
theorem sc__law_gaps : FnScope N__law_gaps ["_law_log"] (defScope s__law_gaps) := ⟨rfl, rfl, rfl, by decide +kernel, rfl, by decide +kernel, by decide +kernel⟩

theorem der__law_gaps {f : Addr} {cdv : Value} {A : Around} {outer : List Env} {s : Shared} {H : Hp} {E : XK}
    (g__law_ends : CalG P w K mg base CX0 2 "_law_ends" spEndsL)
    (g__law_lost : CalG P w K mg base CX0 2 "_law_lost" spLost)
    (n_dict : mg "dict" = none)
    (n_enumerate : mg "enumerate" = none)
    (n_min : mg "min" = none)
    (hr : Room 2 (A.deeper (envOfC "_law_gaps" (defScope s__law_gaps) s.heap.objs.size f cdv))) (gd : (A.deeper (envOfC "_law_gaps" (defScope s__law_gaps) s.heap.objs.size f cdv)).guards = some []) :
    PSs (cxOf CX0 P w K mg base N__law_gaps "_law_gaps" (defScope s__law_gaps) f cdv A outer s H E).nox (defBody s__law_gaps) (t__law_gaps K) :=
  (pss_cons (ps_par (i := 1) (j := 2) (by rfl) sc__law_gaps.nd rfl rfl (by decide) rfl rfl (pa_cons (pe_g g__law_ends hr (by decide) gd pass0 (by rfl) (pa_cons (pv 0) pa_nil)) (pa_cons (pe_lst pa_nil) pa_nil)) (by rfl))
      (pss_cons (ps_set (i := 3) sc__law_gaps.nd rfl (by first | exact Or.inl rfl | exact Or.inr rfl) (pe_callTy (call_dictP rfl) (by rfl) n_dict (by decide +kernel) (pa_cons (pe_lc (own := [("_law_one", 4)]) (g := (gName 4)) (tt := (tTest (tOp (rEqA K) (tOp (rIx K) (tVar 4) (tC (V.int 0))) (tC (V.str "write"))))) rfl sc__law_gaps.nd (pi_seq (pv 0)) (blkOk_by (N := N__law_gaps) (sc := defScope s__law_gaps) (by decide +kernel)) (fun _ _ _ _ _ => (pg_name (i := 4) sc__law_gaps.nd rfl (by first | exact Or.inl rfl | exact Or.inr rfl))) (fun _ _ _ _ _ => (pts_one (pt_cmpR (op_eqA (units65 hr)) (pe_ix ix_seq (pv 4) pe_int (fun _ _ => rfl)) pe_str (nomark _)))) (fun _ _ _ _ _ => (pe_tup (pa_cons (pe_ix ix_seq (pv 4) pe_int (fun _ _ => rfl)) (pa_cons (pv 4) pa_nil))))) pa_nil)))
      (pss_cons (ps_for PassesOwn.never rfl (pi_seq (pv 0)) (pg_name (i := 4) sc__law_gaps.nd rfl (by first | exact Or.inl rfl | exact Or.inr rfl))
      (pss_one (ps_if (PW.pt (pw_and (pt_cmpR (op_eqA (units65 hr)) (pe_ix ix_seq (pv 4) pe_int (fun _ _ => rfl)) pe_str (nomark _)) (pw_and1 (pt_cmp (pc_din (hu_of hr) (pe_ix ix_seq (pv 4) pe_int (fun _ _ => rfl)) (pv 3))))))
      (pss_one (ps_expr (pe_bm PySem.F.plainAttrs_list PySem.F.slot_list_append PySem.F.type_list_append mt_append (pv 2) (pa_cons (pe_op op_sub (pe_ix ix_seq (pe_dget (hu_of hr) (pv 3) (pe_ix ix_seq (pv 4) pe_int (fun _ _ => rfl)) (fun _ _ => rfl)) pe_int (fun _ _ => rfl)) (pe_ix ix_seq (pv 4) pe_int (fun _ _ => rfl))) pa_nil)))) pss_nil)))
      (pss_cons (ps_lock (ps_setLc (i := 5) (own := [("_law_value", 6)]) (g := (gName 6)) (tt := (tTest (tOp (rNiA K) (tVar 6) (tCall spLost [] E0 (tCons (tVar 0) tNil))))) rfl sc__law_gaps.nd rfl rfl (sw_true rfl rfl rfl (by decide +kernel)) (pi_keys (pv 1)) (blkOk_by (N := N__law_gaps) (sc := defScope s__law_gaps) (by decide +kernel)) (fun _ _ _ _ _ => (pg_name (i := 6) sc__law_gaps.nd rfl (by first | exact Or.inl rfl | exact Or.inr rfl))) (fun _ _ _ _ _ => (pts_one (pt_cmpR (op_niA (units65 hr)) (pv 6) (pe_g g__law_lost hr (by decide) gd pass0 (by rfl) (pa_cons (pv 0) pa_nil)) (by rfl)))) (fun _ _ _ _ _ => (pv 6))))
      (pss_cons (ps_for PassesOwn.never rfl (pi_enA (by rfl) n_enumerate (pa_cons (pv 5) pa_nil)) (pg_tup rfl (pgs_cons (pg_name (i := 7) sc__law_gaps.nd rfl (by first | exact Or.inl rfl | exact Or.inr rfl)) (pgs_cons (pg_name (i := 4) sc__law_gaps.nd rfl (by first | exact Or.inl rfl | exact Or.inr rfl)) pgs_nil)))
      (pss_one (ps_for PassesOwn.never rfl (pi_seq (pe_slice sl_any (pv 5) (po_some (pe_op op_addA (pv 7) pe_int)) po_none)) (pg_name (i := 8) sc__law_gaps.nd rfl (by first | exact Or.inl rfl | exact Or.inr rfl))
      (pss_one (ps_expr (pe_bm PySem.F.plainAttrs_list PySem.F.slot_list_append PySem.F.type_list_append mt_append (pv 2) (pa_cons (pe_callB (call_min2 rfl) (by rfl) n_min (by decide +kernel) (pa_cons (pe_op op_sub (pe_ix ix_seq (pe_dget (hu_of hr) (pv 1) (pv 8) (fun _ _ => rfl)) pe_int (fun _ _ => rfl)) (pe_ix ix_seq (pe_dget (hu_of hr) (pv 1) (pv 4) (fun _ _ => rfl)) pe_int (fun _ _ => rfl))) (pa_cons (pe_op op_sub (pe_ix ix_seq (pe_dget (hu_of hr) (pv 1) (pv 4) (fun _ _ => rfl)) pe_int (fun _ _ => rfl)) (pe_ix ix_seq (pe_dget (hu_of hr) (pv 1) (pv 8) (fun _ _ => rfl)) pe_int (fun _ _ => rfl))) pa_nil))) pa_nil)))))))
      (pss_one (ps_ret (pv 2))))))))

theorem ok__law_gaps {f : Addr} {fd : FuncData} (F : Fun K "_law_gaps" "_law_gaps" s__law_gaps f fd)
    (g__law_ends : CalG P w K mg base CX0 2 "_law_ends" spEndsL)
    (g__law_lost : CalG P w K mg base CX0 2 "_law_lost" spLost)
    (n_dict : mg "dict" = none)
    (n_enumerate : mg "enumerate" = none)
    (n_min : mg "min" = none) :
    FnG P w K mg base CX0 3 f fd ["_law_log"] spGaps :=
  fn_g F sc__law_gaps (fun vs H Q E h => spGaps_arity h) (fun cdv A outer s H vs Q E hr gd0 h => ⟨t__law_gaps K, PSs.nox (der__law_gaps g__law_ends g__law_lost n_dict n_enumerate n_min hr gd0), pure__law_gaps h⟩)

abbrev s__law_least : Stmt := topS 53
abbrev N__law_least : List Str := ["_law_log"]
theorem sc__law_least : FnScope N__law_least ["_law_log"] (defScope s__law_least) := ⟨rfl, rfl, rfl, by decide +kernel, rfl, by decide +kernel, by decide +kernel⟩

theorem der__law_least {f : Addr} {cdv : Value} {A : Around} {outer : List Env} {s : Shared} {H : Hp} {E : XK}
    (g__law_lost : CalG P w K mg base CX0 2 "_law_lost" spLost)
    (g__law_gaps : CalG P w K mg base CX0 3 "_law_gaps" spGaps)
    (n_max : mg "max" = none)
    (hr : Room 3 (A.deeper (envOfC "_law_least" (defScope s__law_least) s.heap.objs.size f cdv))) (gd : (A.deeper (envOfC "_law_least" (defScope s__law_least) s.heap.objs.size f cdv)).guards = some []) :
    PSs (cxOf CX0 P w K mg base N__law_least "_law_least" (defScope s__law_least) f cdv A outer s H E).nox (defBody s__law_least) (t__law_least K) :=
  (pss_one (ps_ret (pe_ifExp (pt_cmpR (op_eqA (units65 hr)) (pe_g g__law_lost hr (by decide) gd pass0 (by rfl) (pa_cons (pv 0) pa_nil)) (pe_lst pa_nil) (nomark _)) (pe_callB (cr_max rfl) (by rfl) n_max (by decide +kernel) (pa_cons (pe_op op_addA (pe_lst (pa_cons pe_int pa_nil)) (pe_g g__law_gaps hr (by decide) gd pass0 (by rfl) (pa_cons (pv 0) pa_nil))) pa_nil)) pe_non)))

theorem ok__law_least {f : Addr} {fd : FuncData} (F : Fun K "_law_least" "_law_least" s__law_least f fd)
    (g__law_lost : CalG P w K mg base CX0 2 "_law_lost" spLost)
    (g__law_gaps : CalG P w K mg base CX0 3 "_law_gaps" spGaps)
    (n_max : mg "max" = none) :
    FnG P w K mg base CX0 4 f fd ["_law_log"] spLeastL :=
  fn_g F sc__law_least (fun vs H Q E h => spLeastL_arity h) (fun cdv A outer s H vs Q E hr gd0 h => ⟨t__law_least K, PSs.nox (der__law_least g__law_lost g__law_gaps n_max hr gd0), pure__law_least h⟩)

abbrev s__law_ahead : Stmt := topS 54
abbrev N__law_ahead : List Str := ["_law_log", "_law_tolerance", "_law_ends_here", "_law_found", "_law_value", "_law_one", "_law_turn", "_law_more", "_law_near"]
theorem sc__law_ahead : FnScope N__law_ahead ["_law_log", "_law_tolerance"] (defScope s__law_ahead) := ⟨rfl, rfl, rfl, by decide +kernel, rfl, by decide +kernel, by decide +kernel⟩

theorem der__law_ahead {f : Addr} {cdv : Value} {A : Around} {outer : List Env} {s : Shared} {H : Hp} {E : XK}
    (g__law_ends : CalG P w K mg base CX0 2 "_law_ends" spEndsL)
    (n_range : mg "range" = none)
    (n_list : mg "list" = none)
    (n_sorted : mg "sorted" = none)
    (n_set : mg "set" = none)
    (hr : Room 2 (A.deeper (envOfC "_law_ahead" (defScope s__law_ahead) s.heap.objs.size f cdv))) (gd : (A.deeper (envOfC "_law_ahead" (defScope s__law_ahead) s.heap.objs.size f cdv)).guards = some []) :
    PSs (cxOf CX0 P w K mg base N__law_ahead "_law_ahead" (defScope s__law_ahead) f cdv A outer s H E).nox (defBody s__law_ahead) (t__law_ahead K) :=
  (pss_cons (ps_asg (pe_tup (pa_cons (pe_g g__law_ends hr (by decide) gd pass0 (by rfl) (pa_cons (pv 0) pa_nil)) (pa_cons pe_dnewK pa_nil))) (pg_tup rfl (pgs_cons (pg_name (i := 2) sc__law_ahead.nd rfl (by first | exact Or.inl rfl | exact Or.inr rfl)) (pgs_cons (pg_name (i := 3) sc__law_ahead.nd rfl (by first | exact Or.inl rfl | exact Or.inr rfl)) pgs_nil))))
      (pss_cons (ps_lock (ps_for PassesOwn.never rfl (pi_keys (pv 2)) (pg_name (i := 4) sc__law_ahead.nd rfl (by first | exact Or.inl rfl | exact Or.inr rfl))
      (pss_one (ps_dput (hu_of hr) (pv 3) (pv 4) (pe_lc (own := [("_law_one", 5)]) (g := (gName 5)) (tt := (tAnd (tTest (tOp (rNeA K) (tVar 5) (tVar 4))) (tTest (tOp rLtI (tOp (rAddA K) (tOp (rIx K) (tDGet (tVar 2) (tVar 5)) (tC (V.int 0))) (tVar 1)) (tOp (rIx K) (tDGet (tVar 2) (tVar 4)) (tC (V.int 1))))))) rfl sc__law_ahead.nd (pi_keys (pv 2)) (blkOk_by (N := N__law_ahead) (sc := defScope s__law_ahead) (by decide +kernel)) (fun _ _ _ _ _ => (pg_name (i := 5) sc__law_ahead.nd rfl (by first | exact Or.inl rfl | exact Or.inr rfl))) (fun _ _ _ _ _ => (pts_one (PW.pt (pw_and (pt_cmpR (op_neA (units65 hr)) (pv 5) (pv 4) (nomark _)) (pw_and1 (pt_cmpR op_lt (pe_op op_addA (pe_ix ix_seq (pe_dget (hu_of hr) (pv 2) (pv 5) (fun _ _ => rfl)) pe_int (fun _ _ => rfl)) (pv 1)) (pe_ix ix_seq (pe_dget (hu_of hr) (pv 2) (pv 4) (fun _ _ => rfl)) pe_int (fun _ _ => rfl)) (nomark _))))))) (fun _ _ _ _ _ => (pv 5))) rfl))))
      (pss_cons (ps_for PassesOwn.never rfl (pi_range1 (by rfl) n_range (pa_cons pe_int pa_nil)) (pg_name (i := 6) sc__law_ahead.nd rfl (by first | exact Or.inl rfl | exact Or.inr rfl))
      (pss_one (ps_lock (ps_for PassesOwn.never rfl (pi_keys (pv 2)) (pg_name (i := 4) sc__law_ahead.nd rfl (by first | exact Or.inl rfl | exact Or.inr rfl))
      (pss_cons (ps_set (i := 7) sc__law_ahead.nd rfl (by first | exact Or.inl rfl | exact Or.inr rfl) (pe_callTy call_list_of (by rfl) n_list (by decide +kernel) (pa_cons (pe_dget (hu_of hr) (pv 3) (pv 4) (fun _ _ => rfl)) pa_nil)))
      (pss_cons (ps_for PassesOwn.never rfl (pi_seq (pe_dget (hu_of hr) (pv 3) (pv 4) (fun _ _ => rfl))) (pg_name (i := 8) sc__law_ahead.nd rfl (by first | exact Or.inl rfl | exact Or.inr rfl))
      (pss_one (ps_expr (pe_bm PySem.F.plainAttrs_list PySem.F.slot_list_extend PySem.F.type_list_extend mt_extendA (pv 7) (pa_cons (pe_dget (hu_of hr) (pv 3) (pv 8) (fun _ _ => rfl)) pa_nil)))))
      (pss_one (ps_dput (hu_of hr) (pv 3) (pv 4) (pe_sortL rfl (by rfl) n_sorted (by rfl) n_set (pv 7)) rfl))))))))
      (pss_one (ps_ret (pv 3))))))

theorem ok__law_ahead {f : Addr} {fd : FuncData} (F : Fun K "_law_ahead" "_law_ahead" s__law_ahead f fd)
    (g__law_ends : CalG P w K mg base CX0 2 "_law_ends" spEndsL)
    (n_range : mg "range" = none)
    (n_list : mg "list" = none)
    (n_sorted : mg "sorted" = none)
    (n_set : mg "set" = none) :
    FnG P w K mg base CX0 3 f fd ["_law_log", "_law_tolerance"] spAheadL :=
  fn_g F sc__law_ahead (fun vs H Q E h => spAheadL_arity h) (fun cdv A outer s H vs Q E hr gd0 h => ⟨t__law_ahead K, PSs.nox (der__law_ahead g__law_ends n_range n_list n_sorted n_set hr gd0), pure__law_ahead h⟩)

abbrev s__law_fine : Stmt := topS 55
abbrev N__law_fine : List Str := ["_law_pot_here", "_law_most", "_law_way", "_law_log", "_law_some", "_law_least_here"]
theorem sc__law_fine : FnScope N__law_fine ["_law_pot_here", "_law_most"] (defScope s__law_fine) := ⟨rfl, rfl, rfl, by decide +kernel, rfl, by decide +kernel, by decide +kernel⟩

theorem der__law_fine {f : Addr} {cdv : Value} {A : Around} {outer : List Env} {s : Shared} {H : Hp} {E : XK}
    (g__law_draw : CalG P w K mg base CX0 1 "_law_draw" spDraw)
    (g__law_true : CalG P w K mg base CX0 3 "_law_true" spTrue25)
    (g__law_least : CalG P w K mg base CX0 4 "_law_least" spLeastL)
    (g__law_wild : CalG P w K mg base CX0 3 "_law_wild" spWild)
    (g__law_any : CalG P w K mg base CX0 2 "_law_any" (spAny K))
    (g__law_lost : CalG P w K mg base CX0 2 "_law_lost" spLost)
    (hr : Room 4 (A.deeper (envOfC "_law_fine" (defScope s__law_fine) s.heap.objs.size f cdv))) (gd : (A.deeper (envOfC "_law_fine" (defScope s__law_fine) s.heap.objs.size f cdv)).guards = some []) :
    PSs (cxOf CX0 P w K mg base N__law_fine "_law_fine" (defScope s__law_fine) f cdv A outer s H E).nox (defBody s__law_fine) (t25__law_fine K) :=
  (pss_cons (ps_set (i := 2) sc__law_fine.nd rfl (by first | exact Or.inl rfl | exact Or.inr rfl) (pe_g g__law_draw hr (by decide) gd pass0 (by rfl) (pa_cons (pv 0) (pa_cons pe_int pa_nil))))
      (pss_cons (ps_set (i := 3) sc__law_fine.nd rfl (by first | exact Or.inl rfl | exact Or.inr rfl) (pe_g g__law_true hr (by decide) gd pass0 (by rfl) (pa_cons (pv 0) (pa_cons (pe_g g__law_draw hr (by decide) gd pass0 (by rfl) (pa_cons (pv 0) (pa_cons (pe_op op_addA (pv 1) pe_int) pa_nil))) (pa_cons (pe_g g__law_draw hr (by decide) gd pass0 (by rfl) (pa_cons (pv 0) (pa_cons pe_int pa_nil))) (pa_cons (pe_op op_addA pe_int (pe_g g__law_draw hr (by decide) gd pass0 (by rfl) (pa_cons (pv 0) (pa_cons pe_int pa_nil)))) pa_nil))))))
      (pss_cons (ps_if (pt_cmpR (op_eqA (units65 hr)) (pv 2) pe_int (nomark _))
      (pss_cons (ps_set (i := 4) sc__law_fine.nd rfl (by first | exact Or.inl rfl | exact Or.inr rfl) (pe_g g__law_wild hr (by decide) gd pass0 (by rfl) (pa_cons (pv 0) (pa_cons (pv 1) (pa_cons (pe_g g__law_any hr (by decide) gd pass0 (by rfl) (pa_cons (pv 0) (pa_cons (pe_lst (pa_cons pe_int (pa_cons pe_int (pa_cons pe_int pa_nil)))) pa_nil))) pa_nil)))))
      (pss_one (ps_set (i := 3) sc__law_fine.nd rfl (by first | exact Or.inl rfl | exact Or.inr rfl) (pe_ifExp (pt_cmpR (op_eqA (units65 hr)) (pe_g g__law_lost hr (by decide) gd pass0 (by rfl) (pa_cons (pv 4) pa_nil)) (pe_lst pa_nil) (nomark _)) (pv 4) (pv 3))))) pss_nil)
      (pss_cons (ps_set (i := 5) sc__law_fine.nd rfl (by first | exact Or.inl rfl | exact Or.inr rfl) (pe_g g__law_least hr (by decide) gd pass0 (by rfl) (pa_cons (pv 3) pa_nil)))
      (pss_one (ps_ret (pe_tup (pa_cons (pv 3) (pa_cons (pe_g g__law_any hr (by decide) gd pass0 (by rfl) (pa_cons (pv 0) (pa_cons (pe_lst (pa_cons (pv 5) (pa_cons (pv 5) (pa_cons (pe_op op_addA (pv 5) pe_int) (pa_cons (pe_op op_addA (pv 5) (pe_g g__law_draw hr (by decide) gd pass0 (by rfl) (pa_cons (pv 0) (pa_cons pe_int pa_nil)))) (pa_cons (pe_op op_powW pe_int pe_int) pa_nil)))))) pa_nil))) pa_nil)))))))))

theorem ok__law_fine {f : Addr} {fd : FuncData} (F : Fun K "_law_fine" "_law_fine" s__law_fine f fd)
    (g__law_draw : CalG P w K mg base CX0 1 "_law_draw" spDraw)
    (g__law_true : CalG P w K mg base CX0 3 "_law_true" spTrue25)
    (g__law_least : CalG P w K mg base CX0 4 "_law_least" spLeastL)
    (g__law_wild : CalG P w K mg base CX0 3 "_law_wild" spWild)
    (g__law_any : CalG P w K mg base CX0 2 "_law_any" (spAny K))
    (g__law_lost : CalG P w K mg base CX0 2 "_law_lost" spLost) :
    FnG P w K mg base CX0 5 f fd ["_law_pot_here", "_law_most"] spFine25 :=
  fn_g F sc__law_fine (fun vs H Q E h => spFine25_arity h) (fun cdv A outer s H vs Q E hr gd0 h => ⟨t25__law_fine K, PSs.nox (der__law_fine g__law_draw g__law_true g__law_least g__law_wild g__law_any g__law_lost hr gd0), pure25__law_fine h⟩)

abbrev s__law_right : Stmt := topS 56
abbrev N__law_right : List Str := ["_law_pot_here", "_law_log", "_law_tolerance", "_law_ahead_here", "_law_kept", "_law_one", "_law_other"]
theorem sc__law_right : FnScope N__law_right ["_law_pot_here"] (defScope s__law_right) := ⟨rfl, rfl, rfl, by decide +kernel, rfl, by decide +kernel, by decide +kernel⟩

theorem der__law_right {f : Addr} {cdv : Value} {A : Around} {outer : List Env} {s : Shared} {H : Hp} {E : XK}
    (g__law_fine : CalG P w K mg base CX0 5 "_law_fine" spFine25)
    (g__law_ahead : CalG P w K mg base CX0 3 "_law_ahead" spAheadL)
    (g_must_precede : CalG P w K mg base CX0 13 "must_precede" spMust)
    (n_repr : mg "repr" = none)
    (n_any : mg "any" = none)
    (hS : ∃ o, base.get? sysModules = some o)
    (hr : Room 13 (A.deeper (envOfC "_law_right" (defScope s__law_right) s.heap.objs.size f cdv))) (gd : (A.deeper (envOfC "_law_right" (defScope s__law_right) s.heap.objs.size f cdv)).guards = some []) :
    PSs (cxOf CX0 P w K mg base N__law_right "_law_right" (defScope s__law_right) f cdv A outer s H E).nox (defBody s__law_right) (t25__law_right K) :=
  (pss_cons (ps_asg (pe_g g__law_fine hr (by decide) gd pass0 (by rfl) (pa_cons (pv 0) (pa_cons pe_int pa_nil))) (pg_tup rfl (pgs_cons (pg_name (i := 1) sc__law_right.nd rfl (by first | exact Or.inl rfl | exact Or.inr rfl)) (pgs_cons (pg_name (i := 2) sc__law_right.nd rfl (by first | exact Or.inl rfl | exact Or.inr rfl)) pgs_nil))))
      (pss_cons (ps_asg (pe_tup (pa_cons (pe_g g__law_ahead hr (by decide) gd pass0 (by rfl) (pa_cons (pv 1) (pa_cons (pv 2) pa_nil))) (pa_cons (pe_callB (call_repr gd hr hS) (by rfl) n_repr (by decide +kernel) (pa_cons (pv 1) pa_nil)) pa_nil))) (pg_tup rfl (pgs_cons (pg_name (i := 3) sc__law_right.nd rfl (by first | exact Or.inl rfl | exact Or.inr rfl)) (pgs_cons (pg_name (i := 4) sc__law_right.nd rfl (by first | exact Or.inl rfl | exact Or.inr rfl)) pgs_nil))))
      (pss_cons (ps_lock (ps_for PassesOwn.never rfl (pi_keys (pv 3)) (pg_name (i := 5) sc__law_right.nd rfl (by first | exact Or.inl rfl | exact Or.inr rfl))
      (pss_one (ps_for PassesOwn.never rfl (pi_keys (pv 3)) (pg_name (i := 6) sc__law_right.nd rfl (by first | exact Or.inl rfl | exact Or.inr rfl))
      (pss_one (ps_if (pt_cmpR (op_neA (units65 hr)) (pe_callB (call_repr gd hr hS) (by rfl) n_repr (by decide +kernel) (pa_cons (pe_g g_must_precede hr (by decide) gd pass0 (by rfl) (pa_cons (pv 1) (pa_cons (pv 2) (pa_cons (pv 5) (pa_cons (pv 6) pa_nil))))) pa_nil)) (pe_callB (call_repr gd hr hS) (by rfl) n_repr (by decide +kernel) (pa_cons (pe_cmpR (op_inA (units65 hr)) (pv 5) (pe_dget (hu_of hr) (pv 3) (pv 6) (fun _ _ => rfl)) (by rfl)) pa_nil)) (nomark _))
      (pss_one (ps_ret pe_bl)) pss_nil))))))
      (pss_one (ps_ret (pe_and (pe_cmpR (op_eqA (units65 hr)) (pe_callB (call_repr gd hr hS) (by rfl) n_repr (by decide +kernel) (pa_cons (pv 1) pa_nil)) (pv 4) (nomark _)) (pe_one (pe_not (pe_callB (cr_any rfl) (by rfl) n_any (by decide +kernel) (pa_cons (pe_lock (pe_lc (own := [("_law_one", 5)]) (g := (gName 5)) (tt := tYes) rfl sc__law_right.nd (pi_keys (pv 3)) (blkOk_by (N := N__law_right) (sc := defScope s__law_right) (by decide +kernel)) (fun _ _ _ _ _ => (pg_name (i := 5) sc__law_right.nd rfl (by first | exact Or.inl rfl | exact Or.inr rfl))) (fun _ _ _ _ _ => pts_nil) (fun _ _ _ _ _ => (pe_cmpR (op_inA (units65 hr)) (pv 5) (pe_dget (hu_of hr) (pv 3) (pv 5) (fun _ _ => rfl)) (by rfl))))) pa_nil))))))))))

theorem ok__law_right {f : Addr} {fd : FuncData} (F : Fun K "_law_right" "_law_right" s__law_right f fd)
    (g__law_fine : CalG P w K mg base CX0 5 "_law_fine" spFine25)
    (g__law_ahead : CalG P w K mg base CX0 3 "_law_ahead" spAheadL)
    (g_must_precede : CalG P w K mg base CX0 13 "must_precede" spMust)
    (n_repr : mg "repr" = none)
    (n_any : mg "any" = none)
    (hS : ∃ o, base.get? sysModules = some o) :
    FnG P w K mg base CX0 14 f fd ["_law_pot_here"] spRight25 :=
  fn_g F sc__law_right (fun vs H Q E h => spRight25_arity h) (fun cdv A outer s H vs Q E hr gd0 h => ⟨t25__law_right K, PSs.nox (der__law_right g__law_fine g__law_ahead g_must_precede n_repr n_any hS hr gd0), pure25__law_right h⟩)

abbrev s_law : Stmt := topS 57
abbrev N_law : List Str := ["_law_script", "_law_k", "_law_pot_here", "_law_turn", "_law_log", "_law_told", "_law_tolerance"]
theorem sc_law : FnScope N_law ["_law_script"] (defScope s_law) := ⟨rfl, rfl, rfl, by decide +kernel, rfl, by decide +kernel, by decide +kernel⟩

theorem der_law {f : Addr} {cdv : Value} {A : Around} {outer : List Env} {s : Shared} {H : Hp} {E : XK}
    (g__law_pot : CalG P w K mg base CX0 1 "_law_pot" (spPot K))
    (g_must_precede : CalG P w K mg base CX0 13 "must_precede" spMust)
    (g__law_right : CalG P w K mg base CX0 14 "_law_right" spRight25)
    (n_range : mg "range" = none)
    (n_max : mg "max" = none)
    (n_min : mg "min" = none)
    (n_all : mg "all" = none)
    (n_len : mg "len" = none)
    (hr : Room 14 (A.deeper (envOfC "law" (defScope s_law) s.heap.objs.size f cdv))) (gd : (A.deeper (envOfC "law" (defScope s_law) s.heap.objs.size f cdv)).guards = some []) :
    PSs (cxOf CX0 P w K mg base N_law "law" (defScope s_law) f cdv A outer s H E).nox (defBody s_law) (t25_law K) :=
  (pss_cons (ps_for PassesOwn.never rfl (pi_range1 (by rfl) n_range (pa_cons (pe_callB (call_max2 rfl) (by rfl) n_max (by decide +kernel) (pa_cons pe_int (pa_cons (pe_callB (call_min2 rfl) (by rfl) n_min (by decide +kernel) (pa_cons pe_int (pa_cons (pe_callB call_len (by rfl) n_len (by decide +kernel) (pa_cons (pv 0) pa_nil)) pa_nil))) pa_nil))) pa_nil)) (pg_name (i := 1) sc_law.nd rfl (by first | exact Or.inl rfl | exact Or.inr rfl))
      (pss_cons (ps_set (i := 2) sc_law.nd rfl (by first | exact Or.inl rfl | exact Or.inr rfl) (pe_g g__law_pot hr (by decide) gd pass0 (by rfl) (pa_cons (pv 0) (pa_cons (pv 1) pa_nil))))
      (pss_one (ps_if (pt_not (pt_val (pe_callB (cr_all rfl) (by rfl) n_all (by decide +kernel) (pa_cons (pe_lc (own := [("_law_turn", 3)]) (g := (gName 3)) (tt := tYes) rfl sc_law.nd (pi_range1 (by rfl) n_range (pa_cons pe_int pa_nil)) (blkOk_by (N := N_law) (sc := defScope s_law) (by decide +kernel)) (fun _ _ _ _ _ => (pg_name (i := 3) sc_law.nd rfl (by first | exact Or.inl rfl | exact Or.inr rfl))) (fun _ _ _ _ _ => pts_nil) (fun _ _ _ _ _ => (pe_g g__law_right hr (by decide) gd pass0 (by rfl) (pa_cons (pv 2) pa_nil)))) pa_nil))))
      (pss_one (ps_ret pe_bl)) pss_nil))))
      (pss_cons (ps_set (i := 4) sc_law.nd rfl (by first | exact Or.inl rfl | exact Or.inr rfl) (pe_tup (pa_cons (pe_tup (pa_cons pe_str (pa_cons pe_int (pa_cons pe_int (pa_cons pe_int pa_nil))))) (pa_cons (pe_tup (pa_cons pe_str (pa_cons pe_int (pa_cons pe_int (pa_cons pe_int pa_nil))))) (pa_cons (pe_tup (pa_cons pe_str (pa_cons pe_int (pa_cons pe_int (pa_cons pe_int pa_nil))))) (pa_cons (pe_tup (pa_cons pe_str (pa_cons pe_int (pa_cons pe_int (pa_cons pe_int pa_nil))))) pa_nil))))))
      (pss_cons (ps_setLc (i := 5) (own := [("_law_tolerance", 6)]) (g := (gName 6)) (tt := tYes) rfl sc_law.nd rfl rfl (sw_true rfl rfl rfl (by decide +kernel)) (pi_tup (pe_tup (pa_cons pe_int (pa_cons pe_int (pa_cons pe_int (pa_cons pe_int pa_nil)))))) (blkOk_by (N := N_law) (sc := defScope s_law) (by decide +kernel)) (fun _ _ _ _ _ => (pg_name (i := 6) sc_law.nd rfl (by first | exact Or.inl rfl | exact Or.inr rfl))) (fun _ _ _ _ _ => pts_nil) (fun _ _ _ _ _ => (pe_g g_must_precede hr (by decide) gd pass0 (by rfl) (pa_cons (pv 4) (pa_cons (pv 6) (pa_cons pe_int (pa_cons pe_int pa_nil)))))))
      (pss_one (ps_ret (pe_cmpR (op_eqA (units65 hr)) (pv 5) (pe_lst (pa_cons pe_bl (pa_cons pe_bl (pa_cons pe_bl (pa_cons pe_bl pa_nil))))) (nomark _)))))))

theorem ok_law {f : Addr} {fd : FuncData} (F : Fun K "law" "law" s_law f fd)
    (g__law_pot : CalG P w K mg base CX0 1 "_law_pot" (spPot K))
    (g_must_precede : CalG P w K mg base CX0 13 "must_precede" spMust)
    (g__law_right : CalG P w K mg base CX0 14 "_law_right" spRight25)
    (n_range : mg "range" = none)
    (n_max : mg "max" = none)
    (n_min : mg "min" = none)
    (n_all : mg "all" = none)
    (n_len : mg "len" = none) :
    FnG P w K mg base CX0 15 f fd ["_law_script"] (spLaw25 K) :=
  fn_g F sc_law (fun vs H Q E h => spLaw25_arity h) (fun cdv A outer s H vs Q E hr gd0 h => ⟨t25_law K, PSs.nox (der_law g__law_pot g_must_precede g__law_right n_range n_max n_min n_all n_len hr gd0), pure25_law h⟩)

end
end K01

namespace K01
open PySem PySem.Spec PyProof.Rows L2 LB GenW
theorem all_mk {P : Program} {w : World} {K : PySem.W.Frag} {h : Heap} {mg : Str → Option Value} {fa : Addr} (X : K.In h) (Gg : h.Ns mainGlobals mg) (hfa : mg "law" = some (.ref fa))
    {f0 : Addr} {od0 an0 : Option Addr} {sl0 : Array (Option Value)} {oc0 kV0 dc0 pm0 cd0 ct0 : Value}
    (a0 : PySem.W.nsIn K mainGlobals "is_integer" = some (some (.ref f0))) (l0 : K.lookup f0 = some ⟨oc0, od0, .func (PySem.W.fnOf "is_integer" "is_integer" (defArgs s_is_integer) (defBody s_is_integer) (defScope s_is_integer) .none kV0 dc0 pm0 an0 cd0 ct0), sl0⟩) (c0 : PySem.W.codeIn K cd0 "is_integer" = true) (k0 : PySem.W.keepIn K (.ref f0) = true)
    {f1 : Addr} {od1 an1 : Option Addr} {sl1 : Array (Option Value)} {oc1 kV1 dc1 pm1 cd1 ct1 : Value}
    (a1 : PySem.W.nsIn K mainGlobals "is_integer_within" = some (some (.ref f1))) (l1 : K.lookup f1 = some ⟨oc1, od1, .func (PySem.W.fnOf "is_integer_within" "is_integer_within" (defArgs s_is_integer_within) (defBody s_is_integer_within) (defScope s_is_integer_within) .none kV1 dc1 pm1 an1 cd1 ct1), sl1⟩) (c1 : PySem.W.codeIn K cd1 "is_integer_within" = true) (k1 : PySem.W.keepIn K (.ref f1) = true)
    {f2 : Addr} {od2 an2 : Option Addr} {sl2 : Array (Option Value)} {oc2 kV2 dc2 pm2 cd2 ct2 : Value}
    (a2 : PySem.W.nsIn K mainGlobals "is_index" = some (some (.ref f2))) (l2 : K.lookup f2 = some ⟨oc2, od2, .func (PySem.W.fnOf "is_index" "is_index" (defArgs s_is_index) (defBody s_is_index) (defScope s_is_index) .none kV2 dc2 pm2 an2 cd2 ct2), sl2⟩) (c2 : PySem.W.codeIn K cd2 "is_index" = true) (k2 : PySem.W.keepIn K (.ref f2) = true)
    {f3 : Addr} {od3 an3 : Option Addr} {sl3 : Array (Option Value)} {oc3 kV3 dc3 pm3 cd3 ct3 : Value}
    (a3 : PySem.W.nsIn K mainGlobals "surely_before" = some (some (.ref f3))) (l3 : K.lookup f3 = some ⟨oc3, od3, .func (PySem.W.fnOf "surely_before" "surely_before" (defArgs s_surely_before) (defBody s_surely_before) (defScope s_surely_before) .none kV3 dc3 pm3 an3 cd3 ct3), sl3⟩) (c3 : PySem.W.codeIn K cd3 "surely_before" = true) (k3 : PySem.W.keepIn K (.ref f3) = true)
    {f4 : Addr} {od4 an4 : Option Addr} {sl4 : Array (Option Value)} {oc4 kV4 dc4 pm4 cd4 ct4 : Value}
    (a4 : PySem.W.nsIn K mainGlobals "values_of" = some (some (.ref f4))) (l4 : K.lookup f4 = some ⟨oc4, od4, .func (PySem.W.fnOf "values_of" "values_of" (defArgs s_values_of) (defBody s_values_of) (defScope s_values_of) .none kV4 dc4 pm4 an4 cd4 ct4), sl4⟩) (c4 : PySem.W.codeIn K cd4 "values_of" = true) (k4 : PySem.W.keepIn K (.ref f4) = true)
    {f5 : Addr} {od5 an5 : Option Addr} {sl5 : Array (Option Value)} {oc5 kV5 dc5 pm5 cd5 ct5 : Value}
    (a5 : PySem.W.nsIn K mainGlobals "is_value" = some (some (.ref f5))) (l5 : K.lookup f5 = some ⟨oc5, od5, .func (PySem.W.fnOf "is_value" "is_value" (defArgs s_is_value) (defBody s_is_value) (defScope s_is_value) .none kV5 dc5 pm5 an5 cd5 ct5), sl5⟩) (c5 : PySem.W.codeIn K cd5 "is_value" = true) (k5 : PySem.W.keepIn K (.ref f5) = true)
    {f6 : Addr} {od6 an6 : Option Addr} {sl6 : Array (Option Value)} {oc6 kV6 dc6 pm6 cd6 ct6 : Value}
    (a6 : PySem.W.nsIn K mainGlobals "demand_value" = some (some (.ref f6))) (l6 : K.lookup f6 = some ⟨oc6, od6, .func (PySem.W.fnOf "demand_value" "demand_value" (defArgs s_demand_value) (defBody s_demand_value) (defScope s_demand_value) .none kV6 dc6 pm6 an6 cd6 ct6), sl6⟩) (c6 : PySem.W.codeIn K cd6 "demand_value" = true) (k6 : PySem.W.keepIn K (.ref f6) = true)
    {f7 : Addr} {od7 an7 : Option Addr} {sl7 : Array (Option Value)} {oc7 kV7 dc7 pm7 cd7 ct7 : Value}
    (a7 : PySem.W.nsIn K mainGlobals "writes_of" = some (some (.ref f7))) (l7 : K.lookup f7 = some ⟨oc7, od7, .func (PySem.W.fnOf "writes_of" "writes_of" (defArgs s_writes_of) (defBody s_writes_of) (defScope s_writes_of) .none kV7 dc7 pm7 an7 cd7 ct7), sl7⟩) (c7 : PySem.W.codeIn K cd7 "writes_of" = true) (k7 : PySem.W.keepIn K (.ref f7) = true)
    {f8 : Addr} {od8 an8 : Option Addr} {sl8 : Array (Option Value)} {oc8 kV8 dc8 pm8 cd8 ct8 : Value}
    (a8 : PySem.W.nsIn K mainGlobals "ended_first" = some (some (.ref f8))) (l8 : K.lookup f8 = some ⟨oc8, od8, .func (PySem.W.fnOf "ended_first" "ended_first" (defArgs s_ended_first) (defBody s_ended_first) (defScope s_ended_first) .none kV8 dc8 pm8 an8 cd8 ct8), sl8⟩) (c8 : PySem.W.codeIn K cd8 "ended_first" = true) (k8 : PySem.W.keepIn K (.ref f8) = true)
    {f9 : Addr} {od9 an9 : Option Addr} {sl9 : Array (Option Value)} {oc9 kV9 dc9 pm9 cd9 ct9 : Value}
    (a9 : PySem.W.nsIn K mainGlobals "begun_last" = some (some (.ref f9))) (l9 : K.lookup f9 = some ⟨oc9, od9, .func (PySem.W.fnOf "begun_last" "begun_last" (defArgs s_begun_last) (defBody s_begun_last) (defScope s_begun_last) .none kV9 dc9 pm9 an9 cd9 ct9), sl9⟩) (c9 : PySem.W.codeIn K cd9 "begun_last" = true) (k9 : PySem.W.keepIn K (.ref f9) = true)
    {f10 : Addr} {od10 an10 : Option Addr} {sl10 : Array (Option Value)} {oc10 kV10 dc10 pm10 cd10 ct10 : Value}
    (a10 : PySem.W.nsIn K mainGlobals "spans_of" = some (some (.ref f10))) (l10 : K.lookup f10 = some ⟨oc10, od10, .func (PySem.W.fnOf "spans_of" "spans_of" (defArgs s_spans_of) (defBody s_spans_of) (defScope s_spans_of) .none kV10 dc10 pm10 an10 cd10 ct10), sl10⟩) (c10 : PySem.W.codeIn K cd10 "spans_of" = true) (k10 : PySem.W.keepIn K (.ref f10) = true)
    {f11 : Addr} {od11 an11 : Option Addr} {sl11 : Array (Option Value)} {oc11 kV11 dc11 pm11 cd11 ct11 : Value}
    (a11 : PySem.W.nsIn K mainGlobals "is_span_before" = some (some (.ref f11))) (l11 : K.lookup f11 = some ⟨oc11, od11, .func (PySem.W.fnOf "is_span_before" "is_span_before" (defArgs s_is_span_before) (defBody s_is_span_before) (defScope s_is_span_before) .none kV11 dc11 pm11 an11 cd11 ct11), sl11⟩) (c11 : PySem.W.codeIn K cd11 "is_span_before" = true) (k11 : PySem.W.keepIn K (.ref f11) = true)
    {f12 : Addr} {od12 an12 : Option Addr} {sl12 : Array (Option Value)} {oc12 kV12 dc12 pm12 cd12 ct12 : Value}
    (a12 : PySem.W.nsIn K mainGlobals "are_spans_crossed" = some (some (.ref f12))) (l12 : K.lookup f12 = some ⟨oc12, od12, .func (PySem.W.fnOf "are_spans_crossed" "are_spans_crossed" (defArgs s_are_spans_crossed) (defBody s_are_spans_crossed) (defScope s_are_spans_crossed) .none kV12 dc12 pm12 an12 cd12 ct12), sl12⟩) (c12 : PySem.W.codeIn K cd12 "are_spans_crossed" = true) (k12 : PySem.W.keepIn K (.ref f12) = true)
    {f13 : Addr} {od13 an13 : Option Addr} {sl13 : Array (Option Value)} {oc13 kV13 dc13 pm13 cd13 ct13 : Value}
    (a13 : PySem.W.nsIn K mainGlobals "faults_within_values" = some (some (.ref f13))) (l13 : K.lookup f13 = some ⟨oc13, od13, .func (PySem.W.fnOf "faults_within_values" "faults_within_values" (defArgs s_faults_within_values) (defBody s_faults_within_values) (defScope s_faults_within_values) .none kV13 dc13 pm13 an13 cd13 ct13), sl13⟩) (c13 : PySem.W.codeIn K cd13 "faults_within_values" = true) (k13 : PySem.W.keepIn K (.ref f13) = true)
    {f14 : Addr} {od14 an14 : Option Addr} {sl14 : Array (Option Value)} {oc14 kV14 dc14 pm14 cd14 ct14 : Value}
    (a14 : PySem.W.nsIn K mainGlobals "_pairs_before_each_other" = some (some (.ref f14))) (l14 : K.lookup f14 = some ⟨oc14, od14, .func (PySem.W.fnOf "_pairs_before_each_other" "_pairs_before_each_other" (defArgs s__pairs_before_each_other) (defBody s__pairs_before_each_other) (defScope s__pairs_before_each_other) .none kV14 dc14 pm14 an14 cd14 ct14), sl14⟩) (c14 : PySem.W.codeIn K cd14 "_pairs_before_each_other" = true) (k14 : PySem.W.keepIn K (.ref f14) = true)
    {f15 : Addr} {od15 an15 : Option Addr} {sl15 : Array (Option Value)} {oc15 kV15 dc15 pm15 cd15 ct15 : Value}
    (a15 : PySem.W.nsIn K mainGlobals "faults" = some (some (.ref f15))) (l15 : K.lookup f15 = some ⟨oc15, od15, .func (PySem.W.fnOf "faults" "faults" (defArgs s_faults) (defBody s_faults) (defScope s_faults) .none kV15 dc15 pm15 an15 cd15 ct15), sl15⟩) (c15 : PySem.W.codeIn K cd15 "faults" = true) (k15 : PySem.W.keepIn K (.ref f15) = true)
    {f16 : Addr} {od16 an16 : Option Addr} {sl16 : Array (Option Value)} {oc16 kV16 dc16 pm16 cd16 ct16 : Value}
    (a16 : PySem.W.nsIn K mainGlobals "first_fault" = some (some (.ref f16))) (l16 : K.lookup f16 = some ⟨oc16, od16, .func (PySem.W.fnOf "first_fault" "first_fault" (defArgs s_first_fault) (defBody s_first_fault) (defScope s_first_fault) .none kV16 dc16 pm16 an16 cd16 ct16), sl16⟩) (c16 : PySem.W.codeIn K cd16 "first_fault" = true) (k16 : PySem.W.keepIn K (.ref f16) = true)
    {f17 : Addr} {od17 an17 : Option Addr} {sl17 : Array (Option Value)} {oc17 kV17 dc17 pm17 cd17 ct17 : Value}
    (a17 : PySem.W.nsIn K mainGlobals "demand_explained" = some (some (.ref f17))) (l17 : K.lookup f17 = some ⟨oc17, od17, .func (PySem.W.fnOf "demand_explained" "demand_explained" (defArgs s_demand_explained) (defBody s_demand_explained) (defScope s_demand_explained) .none kV17 dc17 pm17 an17 cd17 ct17), sl17⟩) (c17 : PySem.W.codeIn K cd17 "demand_explained" = true) (k17 : PySem.W.keepIn K (.ref f17) = true)
    {f18 : Addr} {od18 an18 : Option Addr} {sl18 : Array (Option Value)} {oc18 kV18 dc18 pm18 cd18 ct18 : Value}
    (a18 : PySem.W.nsIn K mainGlobals "_is_ahead" = some (some (.ref f18))) (l18 : K.lookup f18 = some ⟨oc18, od18, .func (PySem.W.fnOf "_is_ahead" "_is_ahead" (defArgs s__is_ahead) (defBody s__is_ahead) (defScope s__is_ahead) .none kV18 dc18 pm18 an18 cd18 ct18), sl18⟩) (c18 : PySem.W.codeIn K cd18 "_is_ahead" = true) (k18 : PySem.W.keepIn K (.ref f18) = true)
    {f19 : Addr} {od19 an19 : Option Addr} {sl19 : Array (Option Value)} {oc19 kV19 dc19 pm19 cd19 ct19 : Value}
    (a19 : PySem.W.nsIn K mainGlobals "_values_ahead" = some (some (.ref f19))) (l19 : K.lookup f19 = some ⟨oc19, od19, .func (PySem.W.fnOf "_values_ahead" "_values_ahead" (defArgs s__values_ahead) (defBody s__values_ahead) (defScope s__values_ahead) .none kV19 dc19 pm19 an19 cd19 ct19), sl19⟩) (c19 : PySem.W.codeIn K cd19 "_values_ahead" = true) (k19 : PySem.W.keepIn K (.ref f19) = true)
    {f20 : Addr} {od20 an20 : Option Addr} {sl20 : Array (Option Value)} {oc20 kV20 dc20 pm20 cd20 ct20 : Value}
    (a20 : PySem.W.nsIn K mainGlobals "_within_two_steps" = some (some (.ref f20))) (l20 : K.lookup f20 = some ⟨oc20, od20, .func (PySem.W.fnOf "_within_two_steps" "_within_two_steps" (defArgs s__within_two_steps) (defBody s__within_two_steps) (defScope s__within_two_steps) .none kV20 dc20 pm20 an20 cd20 ct20), sl20⟩) (c20 : PySem.W.codeIn K cd20 "_within_two_steps" = true) (k20 : PySem.W.keepIn K (.ref f20) = true)
    {f21 : Addr} {od21 an21 : Option Addr} {sl21 : Array (Option Value)} {oc21 kV21 dc21 pm21 cd21 ct21 : Value}
    (a21 : PySem.W.nsIn K mainGlobals "_preceding" = some (some (.ref f21))) (l21 : K.lookup f21 = some ⟨oc21, od21, .func (PySem.W.fnOf "_preceding" "_preceding" (defArgs s__preceding) (defBody s__preceding) (defScope s__preceding) .none kV21 dc21 pm21 an21 cd21 ct21), sl21⟩) (c21 : PySem.W.codeIn K cd21 "_preceding" = true) (k21 : PySem.W.keepIn K (.ref f21) = true)
    {f22 : Addr} {od22 an22 : Option Addr} {sl22 : Array (Option Value)} {oc22 kV22 dc22 pm22 cd22 ct22 : Value}
    (a22 : PySem.W.nsIn K mainGlobals "must_precede" = some (some (.ref f22))) (l22 : K.lookup f22 = some ⟨oc22, od22, .func (PySem.W.fnOf "must_precede" "must_precede" (defArgs s_must_precede) (defBody s_must_precede) (defScope s_must_precede) .none kV22 dc22 pm22 an22 cd22 ct22), sl22⟩) (c22 : PySem.W.codeIn K cd22 "must_precede" = true) (k22 : PySem.W.keepIn K (.ref f22) = true)
    {f23 : Addr} {od23 an23 : Option Addr} {sl23 : Array (Option Value)} {oc23 kV23 dc23 pm23 cd23 ct23 : Value}
    (a23 : PySem.W.nsIn K mainGlobals "_law_draw" = some (some (.ref f23))) (l23 : K.lookup f23 = some ⟨oc23, od23, .func (PySem.W.fnOf "_law_draw" "_law_draw" (defArgs s__law_draw) (defBody s__law_draw) (defScope s__law_draw) .none kV23 dc23 pm23 an23 cd23 ct23), sl23⟩) (c23 : PySem.W.codeIn K cd23 "_law_draw" = true) (k23 : PySem.W.keepIn K (.ref f23) = true)
    {f24 : Addr} {od24 an24 : Option Addr} {sl24 : Array (Option Value)} {oc24 kV24 dc24 pm24 cd24 ct24 : Value}
    (a24 : PySem.W.nsIn K mainGlobals "_law_pot" = some (some (.ref f24))) (l24 : K.lookup f24 = some ⟨oc24, od24, .func (PySem.W.fnOf "_law_pot" "_law_pot" (defArgs s__law_pot) (defBody s__law_pot) (defScope s__law_pot) .none kV24 dc24 pm24 an24 cd24 ct24), sl24⟩) (c24 : PySem.W.codeIn K cd24 "_law_pot" = true) (k24 : PySem.W.keepIn K (.ref f24) = true)
    {f25 : Addr} {od25 an25 : Option Addr} {sl25 : Array (Option Value)} {oc25 kV25 dc25 pm25 cd25 ct25 : Value}
    (a25 : PySem.W.nsIn K mainGlobals "_law_any" = some (some (.ref f25))) (l25 : K.lookup f25 = some ⟨oc25, od25, .func (PySem.W.fnOf "_law_any" "_law_any" (defArgs s__law_any) (defBody s__law_any) (defScope s__law_any) .none kV25 dc25 pm25 an25 cd25 ct25), sl25⟩) (c25 : PySem.W.codeIn K cd25 "_law_any" = true) (k25 : PySem.W.keepIn K (.ref f25) = true)
    {f26 : Addr} {od26 an26 : Option Addr} {sl26 : Array (Option Value)} {oc26 kV26 dc26 pm26 cd26 ct26 : Value}
    (a26 : PySem.W.nsIn K mainGlobals "_law_mixed" = some (some (.ref f26))) (l26 : K.lookup f26 = some ⟨oc26, od26, .func (PySem.W.fnOf "_law_mixed" "_law_mixed" (defArgs s__law_mixed) (defBody s__law_mixed) (defScope s__law_mixed) .none kV26 dc26 pm26 an26 cd26 ct26), sl26⟩) (c26 : PySem.W.codeIn K cd26 "_law_mixed" = true) (k26 : PySem.W.keepIn K (.ref f26) = true)
    {f27 : Addr} {od27 an27 : Option Addr} {sl27 : Array (Option Value)} {oc27 kV27 dc27 pm27 cd27 ct27 : Value}
    (a27 : PySem.W.nsIn K mainGlobals "_law_wild" = some (some (.ref f27))) (l27 : K.lookup f27 = some ⟨oc27, od27, .func (PySem.W.fnOf "_law_wild" "_law_wild" (defArgs s__law_wild) (defBody s__law_wild) (defScope s__law_wild) .none kV27 dc27 pm27 an27 cd27 ct27), sl27⟩) (c27 : PySem.W.codeIn K cd27 "_law_wild" = true) (k27 : PySem.W.keepIn K (.ref f27) = true)
    {f28 : Addr} {od28 an28 : Option Addr} {sl28 : Array (Option Value)} {oc28 kV28 dc28 pm28 cd28 ct28 : Value}
    (a28 : PySem.W.nsIn K mainGlobals "_law_true" = some (some (.ref f28))) (l28 : K.lookup f28 = some ⟨oc28, od28, .func (PySem.W.fnOf "_law_true" "_law_true" (defArgs s__law_true) (defBody s__law_true) (defScope s__law_true) .none kV28 dc28 pm28 an28 cd28 ct28), sl28⟩) (c28 : PySem.W.codeIn K cd28 "_law_true" = true) (k28 : PySem.W.keepIn K (.ref f28) = true)
    {f29 : Addr} {od29 an29 : Option Addr} {sl29 : Array (Option Value)} {oc29 kV29 dc29 pm29 cd29 ct29 : Value}
    (a29 : PySem.W.nsIn K mainGlobals "_law_worths" = some (some (.ref f29))) (l29 : K.lookup f29 = some ⟨oc29, od29, .func (PySem.W.fnOf "_law_worths" "_law_worths" (defArgs s__law_worths) (defBody s__law_worths) (defScope s__law_worths) .none kV29 dc29 pm29 an29 cd29 ct29), sl29⟩) (c29 : PySem.W.codeIn K cd29 "_law_worths" = true) (k29 : PySem.W.keepIn K (.ref f29) = true)
    {f30 : Addr} {od30 an30 : Option Addr} {sl30 : Array (Option Value)} {oc30 kV30 dc30 pm30 cd30 ct30 : Value}
    (a30 : PySem.W.nsIn K mainGlobals "_law_ends" = some (some (.ref f30))) (l30 : K.lookup f30 = some ⟨oc30, od30, .func (PySem.W.fnOf "_law_ends" "_law_ends" (defArgs s__law_ends) (defBody s__law_ends) (defScope s__law_ends) .none kV30 dc30 pm30 an30 cd30 ct30), sl30⟩) (c30 : PySem.W.codeIn K cd30 "_law_ends" = true) (k30 : PySem.W.keepIn K (.ref f30) = true)
    {f31 : Addr} {od31 an31 : Option Addr} {sl31 : Array (Option Value)} {oc31 kV31 dc31 pm31 cd31 ct31 : Value}
    (a31 : PySem.W.nsIn K mainGlobals "_law_lost" = some (some (.ref f31))) (l31 : K.lookup f31 = some ⟨oc31, od31, .func (PySem.W.fnOf "_law_lost" "_law_lost" (defArgs s__law_lost) (defBody s__law_lost) (defScope s__law_lost) .none kV31 dc31 pm31 an31 cd31 ct31), sl31⟩) (c31 : PySem.W.codeIn K cd31 "_law_lost" = true) (k31 : PySem.W.keepIn K (.ref f31) = true)
    {f32 : Addr} {od32 an32 : Option Addr} {sl32 : Array (Option Value)} {oc32 kV32 dc32 pm32 cd32 ct32 : Value}
    (a32 : PySem.W.nsIn K mainGlobals "_law_gaps" = some (some (.ref f32))) (l32 : K.lookup f32 = some ⟨oc32, od32, .func (PySem.W.fnOf "_law_gaps" "_law_gaps" (defArgs s__law_gaps) (defBody s__law_gaps) (defScope s__law_gaps) .none kV32 dc32 pm32 an32 cd32 ct32), sl32⟩) (c32 : PySem.W.codeIn K cd32 "_law_gaps" = true) (k32 : PySem.W.keepIn K (.ref f32) = true)
    {f33 : Addr} {od33 an33 : Option Addr} {sl33 : Array (Option Value)} {oc33 kV33 dc33 pm33 cd33 ct33 : Value}
    (a33 : PySem.W.nsIn K mainGlobals "_law_least" = some (some (.ref f33))) (l33 : K.lookup f33 = some ⟨oc33, od33, .func (PySem.W.fnOf "_law_least" "_law_least" (defArgs s__law_least) (defBody s__law_least) (defScope s__law_least) .none kV33 dc33 pm33 an33 cd33 ct33), sl33⟩) (c33 : PySem.W.codeIn K cd33 "_law_least" = true) (k33 : PySem.W.keepIn K (.ref f33) = true)
    {f34 : Addr} {od34 an34 : Option Addr} {sl34 : Array (Option Value)} {oc34 kV34 dc34 pm34 cd34 ct34 : Value}
    (a34 : PySem.W.nsIn K mainGlobals "_law_ahead" = some (some (.ref f34))) (l34 : K.lookup f34 = some ⟨oc34, od34, .func (PySem.W.fnOf "_law_ahead" "_law_ahead" (defArgs s__law_ahead) (defBody s__law_ahead) (defScope s__law_ahead) .none kV34 dc34 pm34 an34 cd34 ct34), sl34⟩) (c34 : PySem.W.codeIn K cd34 "_law_ahead" = true) (k34 : PySem.W.keepIn K (.ref f34) = true)
    {f35 : Addr} {od35 an35 : Option Addr} {sl35 : Array (Option Value)} {oc35 kV35 dc35 pm35 cd35 ct35 : Value}
    (a35 : PySem.W.nsIn K mainGlobals "_law_fine" = some (some (.ref f35))) (l35 : K.lookup f35 = some ⟨oc35, od35, .func (PySem.W.fnOf "_law_fine" "_law_fine" (defArgs s__law_fine) (defBody s__law_fine) (defScope s__law_fine) .none kV35 dc35 pm35 an35 cd35 ct35), sl35⟩) (c35 : PySem.W.codeIn K cd35 "_law_fine" = true) (k35 : PySem.W.keepIn K (.ref f35) = true)
    {f36 : Addr} {od36 an36 : Option Addr} {sl36 : Array (Option Value)} {oc36 kV36 dc36 pm36 cd36 ct36 : Value}
    (a36 : PySem.W.nsIn K mainGlobals "_law_right" = some (some (.ref f36))) (l36 : K.lookup f36 = some ⟨oc36, od36, .func (PySem.W.fnOf "_law_right" "_law_right" (defArgs s__law_right) (defBody s__law_right) (defScope s__law_right) .none kV36 dc36 pm36 an36 cd36 ct36), sl36⟩) (c36 : PySem.W.codeIn K cd36 "_law_right" = true) (k36 : PySem.W.keepIn K (.ref f36) = true)
    {f37 : Addr} {od37 an37 : Option Addr} {sl37 : Array (Option Value)} {oc37 kV37 dc37 pm37 cd37 ct37 : Value}
    (a37 : PySem.W.nsIn K mainGlobals "law" = some (some (.ref f37))) (l37 : K.lookup f37 = some ⟨oc37, od37, .func (PySem.W.fnOf "law" "law" (defArgs s_law) (defBody s_law) (defScope s_law) .none kV37 dc37 pm37 an37 cd37 ct37), sl37⟩) (c37 : PySem.W.codeIn K cd37 "law" = true) (k37 : PySem.W.keepIn K (.ref f37) = true)
    (z_isinstance : PySem.W.nsIn K mainGlobals "isinstance" = some none)
    (z_int : PySem.W.nsIn K mainGlobals "int" = some none)
    (z_bool : PySem.W.nsIn K mainGlobals "bool" = some none)
    (z_len : PySem.W.nsIn K mainGlobals "len" = some none)
    (z_tuple : PySem.W.nsIn K mainGlobals "tuple" = some none)
    (z_sorted : PySem.W.nsIn K mainGlobals "sorted" = some none)
    (z_enumerate : PySem.W.nsIn K mainGlobals "enumerate" = some none)
    (z_set : PySem.W.nsIn K mainGlobals "set" = some none)
    (z_abs : PySem.W.nsIn K mainGlobals "abs" = some none)
    (z_list : PySem.W.nsIn K mainGlobals "list" = some none)
    (z_range : PySem.W.nsIn K mainGlobals "range" = some none)
    (z_min : PySem.W.nsIn K mainGlobals "min" = some none)
    (z_max : PySem.W.nsIn K mainGlobals "max" = some none)
    (z_dict : PySem.W.nsIn K mainGlobals "dict" = some none)
    (z_repr : PySem.W.nsIn K mainGlobals "repr" = some none)
    (z_any : PySem.W.nsIn K mainGlobals "any" = some none)
    (z_all : PySem.W.nsIn K mainGlobals "all" = some none)
    {t_BEGIN : Tok} (y_BEGIN : PySem.W.nsIn K mainGlobals "BEGIN" = some (some (.int 2 t_BEGIN)))
    {t_END : Tok} (y_END : PySem.W.nsIn K mainGlobals "END" = some (some (.int 3 t_END)))
    {t_VALUE : Tok} (y_VALUE : PySem.W.nsIn K mainGlobals "VALUE" = some (some (.int 1 t_VALUE)))
    {t_WRITE : Tok} (y_WRITE : PySem.W.nsIn K mainGlobals "WRITE" = some (some (.str "write" t_WRITE)))
    {t_KIND : Tok} (y_KIND : PySem.W.nsIn K mainGlobals "KIND" = some (some (.int 0 t_KIND)))
    {t_UNWRITTEN : Tok} (y_UNWRITTEN : PySem.W.nsIn K mainGlobals "UNWRITTEN" = some (some (.str "unwritten" t_UNWRITTEN)))
    {t_EARLY : Tok} (y_EARLY : PySem.W.nsIn K mainGlobals "EARLY" = some (some (.str "early" t_EARLY)))
    {t_LATE : Tok} (y_LATE : PySem.W.nsIn K mainGlobals "LATE" = some (some (.str "late" t_LATE)))
    {t_CROSSED : Tok} (y_CROSSED : PySem.W.nsIn K mainGlobals "CROSSED" = some (some (.str "crossed" t_CROSSED))) :
    ∃ fd : FuncData, (∀ (s : Shared) (u : Value), BindsTo s fd ⟨[u], []⟩ [("_law_script", u)]) ∧ ∀ base : Heap, K.In base → base.Ns mainGlobals mg → (∃ o, base.get? sysModules = some o) → FnG P w K mg base CX0 15 fa fd ["_law_script"] (spLaw25 K) := by
  have e := hfa.symm.trans (PySem.W.mg_of X Gg a37)
  cases e
  refine ⟨PySem.W.fnOf "law" "law" (defArgs s_law) (defBody s_law) (defScope s_law) .none kV37 dc37 pm37 an37 cd37 ct37, fun s v => .of_eq rfl, fun base _ _ hS => ?_⟩
  have n_isinstance := PySem.W.mg_none_of X Gg z_isinstance
  have n_int := PySem.W.mg_none_of X Gg z_int
  have n_bool := PySem.W.mg_none_of X Gg z_bool
  have n_len := PySem.W.mg_none_of X Gg z_len
  have n_tuple := PySem.W.mg_none_of X Gg z_tuple
  have n_sorted := PySem.W.mg_none_of X Gg z_sorted
  have n_enumerate := PySem.W.mg_none_of X Gg z_enumerate
  have n_set := PySem.W.mg_none_of X Gg z_set
  have n_abs := PySem.W.mg_none_of X Gg z_abs
  have n_list := PySem.W.mg_none_of X Gg z_list
  have n_range := PySem.W.mg_none_of X Gg z_range
  have n_min := PySem.W.mg_none_of X Gg z_min
  have n_max := PySem.W.mg_none_of X Gg z_max
  have n_dict := PySem.W.mg_none_of X Gg z_dict
  have n_repr := PySem.W.mg_none_of X Gg z_repr
  have n_any := PySem.W.mg_none_of X Gg z_any
  have n_all := PySem.W.mg_none_of X Gg z_all
  have c_BEGIN : ∃ u, mg "BEGIN" = some u ∧ RelV (V.int 2) u := ⟨_, PySem.W.mg_of X Gg y_BEGIN, t_BEGIN, rfl⟩
  have c_END : ∃ u, mg "END" = some u ∧ RelV (V.int 3) u := ⟨_, PySem.W.mg_of X Gg y_END, t_END, rfl⟩
  have c_VALUE : ∃ u, mg "VALUE" = some u ∧ RelV (V.int 1) u := ⟨_, PySem.W.mg_of X Gg y_VALUE, t_VALUE, rfl⟩
  have c_WRITE : ∃ u, mg "WRITE" = some u ∧ RelV (V.str "write") u := ⟨_, PySem.W.mg_of X Gg y_WRITE, t_WRITE, rfl⟩
  have c_KIND : ∃ u, mg "KIND" = some u ∧ RelV (V.int 0) u := ⟨_, PySem.W.mg_of X Gg y_KIND, t_KIND, rfl⟩
  have c_UNWRITTEN : ∃ u, mg "UNWRITTEN" = some u ∧ RelV (V.str "unwritten") u := ⟨_, PySem.W.mg_of X Gg y_UNWRITTEN, t_UNWRITTEN, rfl⟩
  have c_EARLY : ∃ u, mg "EARLY" = some u ∧ RelV (V.str "early") u := ⟨_, PySem.W.mg_of X Gg y_EARLY, t_EARLY, rfl⟩
  have c_LATE : ∃ u, mg "LATE" = some u ∧ RelV (V.str "late") u := ⟨_, PySem.W.mg_of X Gg y_LATE, t_LATE, rfl⟩
  have c_CROSSED : ∃ u, mg "CROSSED" = some u ∧ RelV (V.str "crossed") u := ⟨_, PySem.W.mg_of X Gg y_CROSSED, t_CROSSED, rfl⟩
  have F0 := fun_mk (st := s_is_integer) l0 c0 k0
  have b0 := bindsG (ps := ["value"]) F0 fun _ _ _ _ _ _ us hl => match us, hl with | [_], _ => rfl
  have o0 := ok_is_integer (P := P) (w := w) (mg := mg) (base := base) F0 n_isinstance n_int n_bool
  have g_is_integer : CalG P w K mg base CX0 1 "is_integer" spIsInt := ⟨f0, _, ["value"], o0, PySem.W.mg_of X Gg a0, k0, b0⟩
  have F1 := fun_mk (st := s_is_integer_within) l1 c1 k1
  have b1 := bindsG (ps := ["value", "least", "greatest"]) F1 fun _ _ _ _ _ _ us hl => match us, hl with | [_, _, _], _ => rfl
  have o1 := ok_is_integer_within (P := P) (w := w) (mg := mg) (base := base) F1 g_is_integer
  have g_is_integer_within : CalG P w K mg base CX0 2 "is_integer_within" spWithin := ⟨f1, _, ["value", "least", "greatest"], o1, PySem.W.mg_of X Gg a1, k1, b1⟩
  have F2 := fun_mk (st := s_is_index) l2 c2 k2
  have b2 := bindsG (ps := ["log", "value"]) F2 fun _ _ _ _ _ _ us hl => match us, hl with | [_, _], _ => rfl
  have o2 := ok_is_index (P := P) (w := w) (mg := mg) (base := base) F2 g_is_integer_within n_len
  have g_is_index : CalG P w K mg base CX0 3 "is_index" spIsIndex := ⟨f2, _, ["log", "value"], o2, PySem.W.mg_of X Gg a2, k2, b2⟩
  have F3 := fun_mk (st := s_surely_before) l3 c3 k3
  have b3 := bindsG (ps := ["log", "tolerance", "one", "other"]) F3 fun _ _ _ _ _ _ us hl => match us, hl with | [_, _, _, _], _ => rfl
  have o3 := ok_surely_before (P := P) (w := w) (mg := mg) (base := base) F3 g_is_index c_BEGIN c_END
  have g_surely_before : CalG P w K mg base CX0 4 "surely_before" spSurely := ⟨f3, _, ["log", "tolerance", "one", "other"], o3, PySem.W.mg_of X Gg a3, k3, b3⟩
  have F4 := fun_mk (st := s_values_of) l4 c4 k4
  have b4 := bindsG (ps := ["log"]) F4 fun _ _ _ _ _ _ us hl => match us, hl with | [_], _ => rfl
  have o4 := ok_values_of (P := P) (w := w) (mg := mg) (base := base) F4 n_tuple n_sorted c_VALUE
  have g_values_of : CalG P w K mg base CX0 1 "values_of" spValues := ⟨f4, _, ["log"], o4, PySem.W.mg_of X Gg a4, k4, b4⟩
  have F5 := fun_mk (st := s_is_value) l5 c5 k5
  have b5 := bindsG (ps := ["log", "value"]) F5 fun _ _ _ _ _ _ us hl => match us, hl with | [_, _], _ => rfl
  have o5 := ok_is_value (P := P) (w := w) (mg := mg) (base := base) F5 g_is_integer g_values_of
  have g_is_value : CalG P w K mg base CX0 2 "is_value" spIsVal := ⟨f5, _, ["log", "value"], o5, PySem.W.mg_of X Gg a5, k5, b5⟩
  have F6 := fun_mk (st := s_demand_value) l6 c6 k6
  have b6 := bindsG (ps := ["log", "value"]) F6 fun _ _ _ _ _ _ us hl => match us, hl with | [_, _], _ => rfl
  have o6 := ok_demand_value (P := P) (w := w) (mg := mg) (base := base) F6 g_is_value
  have g_demand_value : CalG P w K mg base CX0 3 "demand_value" spDemand := ⟨f6, _, ["log", "value"], o6, PySem.W.mg_of X Gg a6, k6, b6⟩
  have F7 := fun_mk (st := s_writes_of) l7 c7 k7
  have b7 := bindsG (ps := ["log"]) F7 fun _ _ _ _ _ _ us hl => match us, hl with | [_], _ => rfl
  have o7 := ok_writes_of (P := P) (w := w) (mg := mg) (base := base) F7 n_enumerate c_VALUE c_WRITE c_KIND
  have g_writes_of : CalG P w K mg base CX0 1 "writes_of" spWritesOf := ⟨f7, _, ["log"], o7, PySem.W.mg_of X Gg a7, k7, b7⟩
  have F8 := fun_mk (st := s_ended_first) l8 c8 k8
  have b8 := bindsG (ps := ["log"]) F8 fun _ _ _ _ _ _ us hl => match us, hl with | [_], _ => rfl
  have o8 := ok_ended_first (P := P) (w := w) (mg := mg) (base := base) F8 n_enumerate c_VALUE c_END
  have g_ended_first : CalG P w K mg base CX0 1 "ended_first" spEnded := ⟨f8, _, ["log"], o8, PySem.W.mg_of X Gg a8, k8, b8⟩
  have F9 := fun_mk (st := s_begun_last) l9 c9 k9
  have b9 := bindsG (ps := ["log"]) F9 fun _ _ _ _ _ _ us hl => match us, hl with | [_], _ => rfl
  have o9 := ok_begun_last (P := P) (w := w) (mg := mg) (base := base) F9 n_enumerate c_VALUE c_BEGIN
  have g_begun_last : CalG P w K mg base CX0 1 "begun_last" spBegun := ⟨f9, _, ["log"], o9, PySem.W.mg_of X Gg a9, k9, b9⟩
  have F10 := fun_mk (st := s_spans_of) l10 c10 k10
  have b10 := bindsG (ps := ["log"]) F10 fun _ _ _ _ _ _ us hl => match us, hl with | [_], _ => rfl
  have o10 := ok_spans_of (P := P) (w := w) (mg := mg) (base := base) F10 g_ended_first g_begun_last c_END c_BEGIN
  have g_spans_of : CalG P w K mg base CX0 2 "spans_of" spSpansD := ⟨f10, _, ["log"], o10, PySem.W.mg_of X Gg a10, k10, b10⟩
  have F11 := fun_mk (st := s_is_span_before) l11 c11 k11
  have b11 := bindsG (ps := ["one", "other", "tolerance"]) F11 fun _ _ _ _ _ _ us hl => match us, hl with | [_, _, _], _ => rfl
  have o11 := ok_is_span_before (P := P) (w := w) (mg := mg) (base := base) F11 
  have g_is_span_before : CalG P w K mg base CX0 1 "is_span_before" spSpanBefore := ⟨f11, _, ["one", "other", "tolerance"], o11, PySem.W.mg_of X Gg a11, k11, b11⟩
  have F12 := fun_mk (st := s_are_spans_crossed) l12 c12 k12
  have b12 := bindsG (ps := ["one", "other", "tolerance"]) F12 fun _ _ _ _ _ _ us hl => match us, hl with | [_, _, _], _ => rfl
  have o12 := ok_are_spans_crossed (P := P) (w := w) (mg := mg) (base := base) F12 g_is_span_before
  have g_are_spans_crossed : CalG P w K mg base CX0 2 "are_spans_crossed" spCrossed := ⟨f12, _, ["one", "other", "tolerance"], o12, PySem.W.mg_of X Gg a12, k12, b12⟩
  have F13 := fun_mk (st := s_faults_within_values) l13 c13 k13
  have b13 := bindsG (ps := ["log", "tolerance"]) F13 fun _ _ _ _ _ _ us hl => match us, hl with | [_, _], _ => rfl
  have o13 := ok_faults_within_values (P := P) (w := w) (mg := mg) (base := base) F13 g_writes_of g_surely_before n_enumerate c_VALUE c_UNWRITTEN c_EARLY
  have y_faults_within_values : CalY P w K mg base 5 "faults_within_values" spWithin0 := ⟨f13, _, ["log", "tolerance"], o13, PySem.W.mg_of X Gg a13, k13, b13⟩
  have F14 := fun_mk (st := s__pairs_before_each_other) l14 c14 k14
  have b14 := bindsG (ps := ["log", "tolerance"]) F14 fun _ _ _ _ _ _ us hl => match us, hl with | [_, _], _ => rfl
  have o14 := ok__pairs_before_each_other (P := P) (w := w) (mg := mg) (base := base) F14 g_writes_of g_spans_of g_values_of g_are_spans_crossed n_enumerate
  have y__pairs_before_each_other : CalY P w K mg base 3 "_pairs_before_each_other" spPairs0 := ⟨f14, _, ["log", "tolerance"], o14, PySem.W.mg_of X Gg a14, k14, b14⟩
  have F15 := fun_mk (st := s_faults) l15 c15 k15
  have b15 := bindsG (ps := ["log", "tolerance"]) F15 fun _ _ _ _ _ _ us hl => match us, hl with | [_, _], _ => rfl
  have o15 := ok_faults (P := P) (w := w) (mg := mg) (base := base) F15 g_ended_first g_begun_last y__pairs_before_each_other y_faults_within_values c_LATE c_CROSSED
  have y_faults : CalY P w K mg base 9 "faults" spFaults0 := ⟨f15, _, ["log", "tolerance"], o15, PySem.W.mg_of X Gg a15, k15, b15⟩
  have F16 := fun_mk (st := s_first_fault) l16 c16 k16
  have b16 := bindsG (ps := ["log", "tolerance"]) F16 fun _ _ _ _ _ _ us hl => match us, hl with | [_, _], _ => rfl
  have o16 := ok_first_fault (P := P) (w := w) (mg := mg) (base := base) F16 y_faults
  have g_first_fault : CalG P w K mg base CX0 11 "first_fault" spFirst0 := ⟨f16, _, ["log", "tolerance"], o16, PySem.W.mg_of X Gg a16, k16, b16⟩
  have F17 := fun_mk (st := s_demand_explained) l17 c17 k17
  have b17 := bindsG (ps := ["log", "tolerance"]) F17 fun _ _ _ _ _ _ us hl => match us, hl with | [_, _], _ => rfl
  have o17 := ok_demand_explained (P := P) (w := w) (mg := mg) (base := base) F17 g_first_fault
  have g_demand_explained : CalG P w K mg base CX0 12 "demand_explained" spDemandE := ⟨f17, _, ["log", "tolerance"], o17, PySem.W.mg_of X Gg a17, k17, b17⟩
  have F18 := fun_mk (st := s__is_ahead) l18 c18 k18
  have b18 := bindsG (ps := ["spans", "tolerance", "one", "other"]) F18 fun _ _ _ _ _ _ us hl => match us, hl with | [_, _, _, _], _ => rfl
  have o18 := ok__is_ahead (P := P) (w := w) (mg := mg) (base := base) F18 g_is_span_before
  have g__is_ahead : CalG P w K mg base CX0 2 "_is_ahead" spIsAhead := ⟨f18, _, ["spans", "tolerance", "one", "other"], o18, PySem.W.mg_of X Gg a18, k18, b18⟩
  have F19 := fun_mk (st := s__values_ahead) l19 c19 k19
  have b19 := bindsG (ps := ["log", "tolerance"]) F19 fun _ _ _ _ _ _ us hl => match us, hl with | [_, _], _ => rfl
  have o19 := ok__values_ahead (P := P) (w := w) (mg := mg) (base := base) F19 g_spans_of g__is_ahead
  have g__values_ahead : CalG P w K mg base CX0 3 "_values_ahead" spAheadV := ⟨f19, _, ["log", "tolerance"], o19, PySem.W.mg_of X Gg a19, k19, b19⟩
  have F20 := fun_mk (st := s__within_two_steps) l20 c20 k20
  have b20 := bindsG (ps := ["table", "value"]) F20 fun _ _ _ _ _ _ us hl => match us, hl with | [_, _], _ => rfl
  have o20 := ok__within_two_steps (P := P) (w := w) (mg := mg) (base := base) F20 n_set n_sorted
  have g__within_two_steps : CalG P w K mg base CX0 1 "_within_two_steps" spTwo := ⟨f20, _, ["table", "value"], o20, PySem.W.mg_of X Gg a20, k20, b20⟩
  have F21 := fun_mk (st := s__preceding) l21 c21 k21
  have b21 := bindsG (ps := ["log", "tolerance", "value"]) F21 fun _ _ _ _ _ _ us hl => match us, hl with | [_, _, _], _ => rfl
  have o21 := ok__preceding (P := P) (w := w) (mg := mg) (base := base) F21 g__within_two_steps g__values_ahead
  have g__preceding : CalG P w K mg base CX0 4 "_preceding" spPreceding := ⟨f21, _, ["log", "tolerance", "value"], o21, PySem.W.mg_of X Gg a21, k21, b21⟩
  have F22 := fun_mk (st := s_must_precede) l22 c22 k22
  have b22 := bindsG (ps := ["log", "tolerance", "one", "other"]) F22 fun _ _ _ _ _ _ us hl => match us, hl with | [_, _, _, _], _ => rfl
  have o22 := ok_must_precede (P := P) (w := w) (mg := mg) (base := base) F22 g_demand_explained g_demand_value g__preceding
  have g_must_precede : CalG P w K mg base CX0 13 "must_precede" spMust := ⟨f22, _, ["log", "tolerance", "one", "other"], o22, PySem.W.mg_of X Gg a22, k22, b22⟩
  have F23 := fun_mk (st := s__law_draw) l23 c23 k23
  have b23 := bindsG (ps := ["_law_pot_here", "_law_many"]) F23 fun _ _ _ _ _ _ us hl => match us, hl with | [_, _], _ => rfl
  have o23 := ok__law_draw (P := P) (w := w) (mg := mg) (base := base) F23 
  have g__law_draw : CalG P w K mg base CX0 1 "_law_draw" spDraw := ⟨f23, _, ["_law_pot_here", "_law_many"], o23, PySem.W.mg_of X Gg a23, k23, b23⟩
  have F24 := fun_mk (st := s__law_pot) l24 c24 k24
  have b24 := bindsG (ps := ["_law_script", "_law_k"]) F24 fun _ _ _ _ _ _ us hl => match us, hl with | [_, _], _ => rfl
  have o24 := ok__law_pot (P := P) (w := w) (mg := mg) (base := base) F24 n_len n_int n_abs
  have g__law_pot : CalG P w K mg base CX0 1 "_law_pot" (spPot K) := ⟨f24, _, ["_law_script", "_law_k"], o24, PySem.W.mg_of X Gg a24, k24, b24⟩
  have F25 := fun_mk (st := s__law_any) l25 c25 k25
  have b25 := bindsG (ps := ["_law_pot_here", "_law_items"]) F25 fun _ _ _ _ _ _ us hl => match us, hl with | [_, _], _ => rfl
  have o25 := ok__law_any (P := P) (w := w) (mg := mg) (base := base) F25 g__law_draw n_len
  have g__law_any : CalG P w K mg base CX0 2 "_law_any" (spAny K) := ⟨f25, _, ["_law_pot_here", "_law_items"], o25, PySem.W.mg_of X Gg a25, k25, b25⟩
  have F26 := fun_mk (st := s__law_mixed) l26 c26 k26
  have b26 := bindsG (ps := ["_law_pot_here", "_law_items"]) F26 fun _ _ _ _ _ _ us hl => match us, hl with | [_, _], _ => rfl
  have o26 := ok__law_mixed (P := P) (w := w) (mg := mg) (base := base) F26 g__law_draw n_list n_len
  have g__law_mixed : CalG P w K mg base CX0 2 "_law_mixed" (spMixed K) := ⟨f26, _, ["_law_pot_here", "_law_items"], o26, PySem.W.mg_of X Gg a26, k26, b26⟩
  have F27 := fun_mk (st := s__law_wild) l27 c27 k27
  have b27 := bindsG (ps := ["_law_pot_here", "_law_most", "_law_room"]) F27 fun _ _ _ _ _ _ us hl => match us, hl with | [_, _, _], _ => rfl
  have o27 := ok__law_wild (P := P) (w := w) (mg := mg) (base := base) F27 g__law_draw g__law_mixed g__law_any n_range n_tuple
  have g__law_wild : CalG P w K mg base CX0 3 "_law_wild" spWild := ⟨f27, _, ["_law_pot_here", "_law_most", "_law_room"], o27, PySem.W.mg_of X Gg a27, k27, b27⟩
  have F28 := fun_mk (st := s__law_true) l28 c28 k28
  have b28 := bindsG (ps := ["_law_pot_here", "_law_many", "_law_off", "_law_step"]) F28 fun _ _ _ _ _ _ us hl => match us, hl with | [_, _, _, _], _ => rfl
  have o28 := ok__law_true (P := P) (w := w) (mg := mg) (base := base) F28 g__law_mixed g__law_any g__law_draw n_range n_tuple n_list n_min n_max
  have g__law_true : CalG P w K mg base CX0 3 "_law_true" spTrue25 := ⟨f28, _, ["_law_pot_here", "_law_many", "_law_off", "_law_step"], o28, PySem.W.mg_of X Gg a28, k28, b28⟩
  have F29 := fun_mk (st := s__law_worths) l29 c29 k29
  have b29 := bindsG (ps := ["_law_log"]) F29 fun _ _ _ _ _ _ us hl => match us, hl with | [_], _ => rfl
  have o29 := ok__law_worths (P := P) (w := w) (mg := mg) (base := base) F29 n_sorted n_set
  have g__law_worths : CalG P w K mg base CX0 1 "_law_worths" spWorths := ⟨f29, _, ["_law_log"], o29, PySem.W.mg_of X Gg a29, k29, b29⟩
  have F30 := fun_mk (st := s__law_ends) l30 c30 k30
  have b30 := bindsG (ps := ["_law_log"]) F30 fun _ _ _ _ _ _ us hl => match us, hl with | [_], _ => rfl
  have o30 := ok__law_ends (P := P) (w := w) (mg := mg) (base := base) F30 g__law_worths n_min n_max
  have g__law_ends : CalG P w K mg base CX0 2 "_law_ends" spEndsL := ⟨f30, _, ["_law_log"], o30, PySem.W.mg_of X Gg a30, k30, b30⟩
  have F31 := fun_mk (st := s__law_lost) l31 c31 k31
  have b31 := bindsG (ps := ["_law_log"]) F31 fun _ _ _ _ _ _ us hl => match us, hl with | [_], _ => rfl
  have o31 := ok__law_lost (P := P) (w := w) (mg := mg) (base := base) F31 g__law_worths
  have g__law_lost : CalG P w K mg base CX0 2 "_law_lost" spLost := ⟨f31, _, ["_law_log"], o31, PySem.W.mg_of X Gg a31, k31, b31⟩
  have F32 := fun_mk (st := s__law_gaps) l32 c32 k32
  have b32 := bindsG (ps := ["_law_log"]) F32 fun _ _ _ _ _ _ us hl => match us, hl with | [_], _ => rfl
  have o32 := ok__law_gaps (P := P) (w := w) (mg := mg) (base := base) F32 g__law_ends g__law_lost n_dict n_enumerate n_min
  have g__law_gaps : CalG P w K mg base CX0 3 "_law_gaps" spGaps := ⟨f32, _, ["_law_log"], o32, PySem.W.mg_of X Gg a32, k32, b32⟩
  have F33 := fun_mk (st := s__law_least) l33 c33 k33
  have b33 := bindsG (ps := ["_law_log"]) F33 fun _ _ _ _ _ _ us hl => match us, hl with | [_], _ => rfl
  have o33 := ok__law_least (P := P) (w := w) (mg := mg) (base := base) F33 g__law_lost g__law_gaps n_max
  have g__law_least : CalG P w K mg base CX0 4 "_law_least" spLeastL := ⟨f33, _, ["_law_log"], o33, PySem.W.mg_of X Gg a33, k33, b33⟩
  have F34 := fun_mk (st := s__law_ahead) l34 c34 k34
  have b34 := bindsG (ps := ["_law_log", "_law_tolerance"]) F34 fun _ _ _ _ _ _ us hl => match us, hl with | [_, _], _ => rfl
  have o34 := ok__law_ahead (P := P) (w := w) (mg := mg) (base := base) F34 g__law_ends n_range n_list n_sorted n_set
  have g__law_ahead : CalG P w K mg base CX0 3 "_law_ahead" spAheadL := ⟨f34, _, ["_law_log", "_law_tolerance"], o34, PySem.W.mg_of X Gg a34, k34, b34⟩
  have F35 := fun_mk (st := s__law_fine) l35 c35 k35
  have b35 := bindsG (ps := ["_law_pot_here", "_law_most"]) F35 fun _ _ _ _ _ _ us hl => match us, hl with | [_, _], _ => rfl
  have o35 := ok__law_fine (P := P) (w := w) (mg := mg) (base := base) F35 g__law_draw g__law_true g__law_least g__law_wild g__law_any g__law_lost
  have g__law_fine : CalG P w K mg base CX0 5 "_law_fine" spFine25 := ⟨f35, _, ["_law_pot_here", "_law_most"], o35, PySem.W.mg_of X Gg a35, k35, b35⟩
  have F36 := fun_mk (st := s__law_right) l36 c36 k36
  have b36 := bindsG (ps := ["_law_pot_here"]) F36 fun _ _ _ _ _ _ us hl => match us, hl with | [_], _ => rfl
  have o36 := ok__law_right (P := P) (w := w) (mg := mg) (base := base) F36 g__law_fine g__law_ahead g_must_precede n_repr n_any hS
  have g__law_right : CalG P w K mg base CX0 14 "_law_right" spRight25 := ⟨f36, _, ["_law_pot_here"], o36, PySem.W.mg_of X Gg a36, k36, b36⟩
  have F37 := fun_mk (st := s_law) l37 c37 k37
  have b37 := bindsG (ps := ["_law_script"]) F37 fun _ _ _ _ _ _ us hl => match us, hl with | [_], _ => rfl
  have o37 := ok_law (P := P) (w := w) (mg := mg) (base := base) F37 g__law_pot g_must_precede g__law_right n_range n_max n_min n_all n_len
  exact o37
end K01
open PySem PySem.W PyProof.Rows
set_option maxHeartbeats 0 in
theorem PySem.Challenge.cw_clockslack_k25_what_must_precede_holds : PySem.Challenge.rw_clockslack_k25_what_must_precede.Holds := by
  w_on; o_law; k_head; (case hw => w_witness2)
  k_fill
  refine LB.walk_g (l := PySem.Challenge.rw_clockslack_k25_what_must_precede) (n := 63) (k := 15) (x := "_law_script") (sp := fun K => LB.spLaw K) rfl (by decide) rfl (by rfl) ⟨rfl, by decide, by decide⟩ (fun w h Y => PySem.W.kIn_of Y) ?F (fun K H a ns hl _ hS => ⟨a, ns, rfl, hS, hl, fun _ => rfl⟩)
  case F =>
    intro w mg fa h KX Gg hmg
    refine' K01.all_mk KX Gg hmg ?a0 ?l0 ?c0 ?k0 ?a1 ?l1 ?c1 ?k1 ?a2 ?l2 ?c2 ?k2 ?a3 ?l3 ?c3 ?k3 ?a4 ?l4 ?c4 ?k4 ?a5 ?l5 ?c5 ?k5 ?a6 ?l6 ?c6 ?k6 ?a7 ?l7 ?c7 ?k7 ?a8 ?l8 ?c8 ?k8 ?a9 ?l9 ?c9 ?k9 ?a10 ?l10 ?c10 ?k10 ?a11 ?l11 ?c11 ?k11 ?a12 ?l12 ?c12 ?k12 ?a13 ?l13 ?c13 ?k13 ?a14 ?l14 ?c14 ?k14 ?a15 ?l15 ?c15 ?k15 ?a16 ?l16 ?c16 ?k16 ?a17 ?l17 ?c17 ?k17 ?a18 ?l18 ?c18 ?k18 ?a19 ?l19 ?c19 ?k19 ?a20 ?l20 ?c20 ?k20 ?a21 ?l21 ?c21 ?k21 ?a22 ?l22 ?c22 ?k22 ?a23 ?l23 ?c23 ?k23 ?a24 ?l24 ?c24 ?k24 ?a25 ?l25 ?c25 ?k25 ?a26 ?l26 ?c26 ?k26 ?a27 ?l27 ?c27 ?k27 ?a28 ?l28 ?c28 ?k28 ?a29 ?l29 ?c29 ?k29 ?a30 ?l30 ?c30 ?k30 ?a31 ?l31 ?c31 ?k31 ?a32 ?l32 ?c32 ?k32 ?a33 ?l33 ?c33 ?k33 ?a34 ?l34 ?c34 ?k34 ?a35 ?l35 ?c35 ?k35 ?a36 ?l36 ?c36 ?k36 ?a37 ?l37 ?c37 ?k37 ?z_isinstance ?z_int ?z_bool ?z_len ?z_tuple ?z_sorted ?z_enumerate ?z_set ?z_abs ?z_list ?z_range ?z_min ?z_max ?z_dict ?z_repr ?z_any ?z_all ?y_BEGIN ?y_END ?y_VALUE ?y_WRITE ?y_KIND ?y_UNWRITTEN ?y_EARLY ?y_LATE ?y_CROSSED
    (case a0 => k_is)
    (case l0 => k_is)
    (case c0 => k_is)
    (case k0 => k_is)
    (case a1 => k_is)
    (case l1 => k_is)
    (case c1 => k_is)
    (case k1 => k_is)
    (case a2 => k_is)
    (case l2 => k_is)
    (case c2 => k_is)
    (case k2 => k_is)
    (case a3 => k_is)
    (case l3 => k_is)
    (case c3 => k_is)
    (case k3 => k_is)
    (case a4 => k_is)
    (case l4 => k_is)
    (case c4 => k_is)
    (case k4 => k_is)
    (case a5 => k_is)
    (case l5 => k_is)
    (case c5 => k_is)
    (case k5 => k_is)
    (case a6 => k_is)
    (case l6 => k_is)
    (case c6 => k_is)
    (case k6 => k_is)
    (case a7 => k_is)
    (case l7 => k_is)
    (case c7 => k_is)
    (case k7 => k_is)
    (case a8 => k_is)
    (case l8 => k_is)
    (case c8 => k_is)
    (case k8 => k_is)
    (case a9 => k_is)
    (case l9 => k_is)
    (case c9 => k_is)
    (case k9 => k_is)
    (case a10 => k_is)
    (case l10 => k_is)
    (case c10 => k_is)
    (case k10 => k_is)
    (case a11 => k_is)
    (case l11 => k_is)
    (case c11 => k_is)
    (case k11 => k_is)
    (case a12 => k_is)
    (case l12 => k_is)
    (case c12 => k_is)
    (case k12 => k_is)
    (case a13 => k_is)
    (case l13 => k_is)
    (case c13 => k_is)
    (case k13 => k_is)
    (case a14 => k_is)
    (case l14 => k_is)
    (case c14 => k_is)
    (case k14 => k_is)
    (case a15 => k_is)
    (case l15 => k_is)
    (case c15 => k_is)
    (case k15 => k_is)
    (case a16 => k_is)
    (case l16 => k_is)
    (case c16 => k_is)
    (case k16 => k_is)
    (case a17 => k_is)
    (case l17 => k_is)
    (case c17 => k_is)
    (case k17 => k_is)
    (case a18 => k_is)
    (case l18 => k_is)
    (case c18 => k_is)
    (case k18 => k_is)
    (case a19 => k_is)
    (case l19 => k_is)
    (case c19 => k_is)
    (case k19 => k_is)
    (case a20 => k_is)
    (case l20 => k_is)
    (case c20 => k_is)
    (case k20 => k_is)
    (case a21 => k_is)
    (case l21 => k_is)
    (case c21 => k_is)
    (case k21 => k_is)
    (case a22 => k_is)
    (case l22 => k_is)
    (case c22 => k_is)
    (case k22 => k_is)
    (case a23 => k_is)
    (case l23 => k_is)
    (case c23 => k_is)
    (case k23 => k_is)
    (case a24 => k_is)
    (case l24 => k_is)
    (case c24 => k_is)
    (case k24 => k_is)
    (case a25 => k_is)
    (case l25 => k_is)
    (case c25 => k_is)
    (case k25 => k_is)
    (case a26 => k_is)
    (case l26 => k_is)
    (case c26 => k_is)
    (case k26 => k_is)
    (case a27 => k_is)
    (case l27 => k_is)
    (case c27 => k_is)
    (case k27 => k_is)
    (case a28 => k_is)
    (case l28 => k_is)
    (case c28 => k_is)
    (case k28 => k_is)
    (case a29 => k_is)
    (case l29 => k_is)
    (case c29 => k_is)
    (case k29 => k_is)
    (case a30 => k_is)
    (case l30 => k_is)
    (case c30 => k_is)
    (case k30 => k_is)
    (case a31 => k_is)
    (case l31 => k_is)
    (case c31 => k_is)
    (case k31 => k_is)
    (case a32 => k_is)
    (case l32 => k_is)
    (case c32 => k_is)
    (case k32 => k_is)
    (case a33 => k_is)
    (case l33 => k_is)
    (case c33 => k_is)
    (case k33 => k_is)
    (case a34 => k_is)
    (case l34 => k_is)
    (case c34 => k_is)
    (case k34 => k_is)
    (case a35 => k_is)
    (case l35 => k_is)
    (case c35 => k_is)
    (case k35 => k_is)
    (case a36 => k_is)
    (case l36 => k_is)
    (case c36 => k_is)
    (case k36 => k_is)
    (case a37 => k_is)
    (case l37 => k_is)
    (case c37 => k_is)
    (case k37 => k_is)
    (case z_isinstance => k_is)
    (case z_int => k_is)
    (case z_bool => k_is)
    (case z_len => k_is)
    (case z_tuple => k_is)
    (case z_sorted => k_is)
    (case z_enumerate => k_is)
    (case z_set => k_is)
    (case z_abs => k_is)
    (case z_list => k_is)
    (case z_range => k_is)
    (case z_min => k_is)
    (case z_max => k_is)
    (case z_dict => k_is)
    (case z_repr => k_is)
    (case z_any => k_is)
    (case z_all => k_is)
    (case y_BEGIN => k_is)
    (case y_END => k_is)
    (case y_VALUE => k_is)
    (case y_WRITE => k_is)
    (case y_KIND => k_is)
    (case y_UNWRITTEN => k_is)
    (case y_EARLY => k_is)
    (case y_LATE => k_is)
    (case y_CROSSED => k_is)


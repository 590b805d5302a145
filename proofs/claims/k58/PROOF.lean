import PyProof.Rows.All
import Wide.All
import OpenK.AllK
import Wide.FinOn
import PyProof.ReprRoads
import PyProof.EqAt
import PyProof.EqKinds
import PyProof.TupleCall
import HandS.Base
import HandS.Call
import HandS.List
import HandS.Comp
import HandS.Dict
import HandS.Iter
import HandS.Text
import HandS.Ends
import HandS.Words
import HandS.Codes
import HandS.Conv
import HandS.TupAny
import HandS.TupMul
import HandS.IsInst
import HandS.Style
import HandS.Wide
import HandS.SortInts
import HandS.Deep
import HandS.StrMore
import HandS.FStr
import HandS.Star
import HandS.RaiseMore
import KE.KUnpackStar
import KE.KxField
import KE.IntTextLaws
import KE.KEqNest
import HandS.More
import KE.GoesEnum
import HandS.Strs
import HandS.SetBool
import HandS.SetFor
import HandS.SortOrd
import PyProof.Rows.SetFrom
import HandS.DictComp
import PyProof.Rows.ReprOcc
import PyProof.Ascii
import PyProof.Rows.StrCase
import PyProof.ReprLen
import HandS.Walk
import KE.KRevSl
import PyProof.SetRoads
import HandS.Zip
import HandS.ForMost
import PySem.Challenge.RW_clockslack_k58_whole_logs_written_and_re
set_option Elab.async false
set_option linter.all false
set_option maxRecDepth 100000
set_option maxHeartbeats 4000000
/-! Own layer over L2: data, heaps that keep, the pot, further rules. -/
namespace LB
open PySem PySem.Spec PyProof.Rows L2
abbrev St := L2.St
/-- a key as data -/
def kD : Key → PyData
  | .inl i => .int i
  | .inr x => .str x

/-! ### heaps: what is kept but at the addresses S; tuples always stay -/
structure Keep (S : Addr → Prop) (H H' : Hp) : Prop where
  all : ∀ b o, ¬ S b → H b = some o → H' b = some o
  tup : ∀ b xs, H b = some (.tup xs) → H' b = some (.tup xs)
theorem Keep.refl (S : Addr → Prop) (H : Hp) : Keep S H H := ⟨fun _ _ _ h => h, fun _ _ h => h⟩
theorem Keep.trans {S : Addr → Prop} {H H1 H2 : Hp} (a : Keep S H H1) (b : Keep S H1 H2) : Keep S H H2 :=
  ⟨fun c o n h => b.all c o n (a.all c o n h), fun c xs h => b.tup c xs (a.tup c xs h)⟩
theorem Keep.mono {S S' : Addr → Prop} {H H1 : Hp} (a : Keep S H H1) (h : ∀ b, S b → S' b) : Keep S' H H1 :=
  ⟨fun c o n e => a.all c o (fun z => n (h c z)) e, a.tup⟩
/-- a new object -/
theorem Keep.new {S : Addr → Prop} {H : Hp} {p : Addr} {o : HO} (h : H p = none) : Keep S H (upd H p o) :=
  ⟨fun b u _ e => by rw [upd_ne (ne_of_none e h)]; exact e, fun b u e => by rw [upd_ne (ne_of_none e h)]; exact e⟩
/-- a list is changed -/
theorem Keep.put {S : Addr → Prop} {H : Hp} {p : Addr} {xs ys : List V} (hs : S p) (h : H p = some (.lst xs)) : Keep S H (upd H p (.lst ys)) :=
  ⟨fun b u n e => by rw [upd_ne (fun z => n (by rw [z]; exact hs))]; exact e, fun b u e => by rw [upd_ne (fun z => by rw [z, h] at e; cases e)]; exact e⟩
/-- .. one that is new since H0 -/
theorem Keep.put0 {S : Addr → Prop} {H0 H : Hp} {p : Addr} {xs ys : List V} (k : Keep S H0 H) (h0 : H0 p = none) (h : H p = some (.lst xs)) : Keep S H0 (upd H p (.lst ys)) :=
  ⟨fun b u n e => by rw [upd_ne (ne_of_none e h0)]; exact k.all b u n e, fun b u e => by rw [upd_ne (ne_of_none e h0)]; exact k.tup b u e⟩
theorem Keep.free {H0 H : Hp} {S : Addr → Prop} (k : Keep S H0 H) {p : Addr} (n : ¬ S p) (h : H p = none) : H0 p = none := by
  cases q : H0 p with
  | none => rfl
  | some o => rw [k.all p o n q] at h; cases h
abbrev At (p : Addr) : Addr → Prop := fun b => b = p
abbrev All : Addr → Prop := fun _ => True

/-! ### data -/
mutual
/-- at v stands the data d; no list or dict of it is at an address of S -/
inductive DD (S : Addr → Prop) (H : Hp) : V → PyData → Prop
  | non : DD S H .non .none
  | bl (b : Bool) : DD S H (.bl b) (.bool b)
  | int (i : Int) : DD S H (.int i) (.int i)
  | str (x : Str) : DD S H (.str x) (.str x)
  | tup {a : Addr} {xs : List V} {ds : List PyData} : H a = some (.tup xs) → DDs S H xs ds → DD S H (.ref a) (.tuple ds)
  | lst {a : Addr} {xs : List V} {ds : List PyData} : ¬ S a → H a = some (.lst xs) → DDs S H xs ds → DD S H (.ref a) (.list ds)
  | dct {a : Addr} {kvs : List (Key × V)} {vs : List PyData} : ¬ S a → H a = some (.dK kvs) → DDs S H (kvs.map (·.2)) vs → DD S H (.ref a) (.dict ((kvs.map fun p => kD p.1).zip vs))
inductive DDs (S : Addr → Prop) (H : Hp) : List V → List PyData → Prop
  | nil : DDs S H [] []
  | cons {v : V} {vs : List V} {d : PyData} {ds : List PyData} : DD S H v d → DDs S H vs ds → DDs S H (v :: vs) (d :: ds)
end
mutual
theorem DD.keep {S : Addr → Prop} {H H' : Hp} (k : Keep S H H') : ∀ {v : V} {d : PyData}, DD S H v d → DD S H' v d
  | _, _, .non => .non
  | _, _, .bl b => .bl b
  | _, _, .int i => .int i
  | _, _, .str x => .str x
  | _, _, .tup h r => .tup (k.tup _ _ h) (DDs.keep k r)
  | _, _, .lst n h r => .lst n (k.all _ _ n h) (DDs.keep k r)
  | _, _, .dct n h r => .dct n (k.all _ _ n h) (DDs.keep k r)
theorem DDs.keep {S : Addr → Prop} {H H' : Hp} (k : Keep S H H') : ∀ {vs : List V} {ds : List PyData}, DDs S H vs ds → DDs S H' vs ds
  | _, _, .nil => .nil
  | _, _, .cons h r => .cons (DD.keep k h) (DDs.keep k r)
end
mutual
theorem DD.mono {S S' : Addr → Prop} {H : Hp} (h : ∀ b, H b ≠ none → S' b → S b) : ∀ {v : V} {d : PyData}, DD S H v d → DD S' H v d
  | _, _, .non => .non
  | _, _, .bl b => .bl b
  | _, _, .int i => .int i
  | _, _, .str x => .str x
  | _, _, .tup e r => .tup e (DDs.mono h r)
  | _, _, .lst n e r => .lst (fun z => n (h _ (by rw [e]; simp) z)) e (DDs.mono h r)
  | _, _, .dct n e r => .dct (fun z => n (h _ (by rw [e]; simp) z)) e (DDs.mono h r)
theorem DDs.mono {S S' : Addr → Prop} {H : Hp} (h : ∀ b, H b ≠ none → S' b → S b) : ∀ {vs : List V} {ds : List PyData}, DDs S H vs ds → DDs S' H vs ds
  | _, _, .nil => .nil
  | _, _, .cons e r => .cons (DD.mono h e) (DDs.mono h r)
end
theorem DDs.length {S : Addr → Prop} {H : Hp} : ∀ {vs : List V} {ds : List PyData}, DDs S H vs ds → vs.length = ds.length
  | _, _, .nil => rfl
  | _, _, .cons _ r => by rw [List.length_cons, List.length_cons, DDs.length r]
theorem DDs.append {S : Addr → Prop} {H : Hp} : ∀ {vs ws : List V} {ds es : List PyData}, DDs S H vs ds → DDs S H ws es → DDs S H (vs ++ ws) (ds ++ es)
  | _, _, _, _, .nil, s => s
  | _, _, _, _, .cons h r, s => .cons h (DDs.append r s)
theorem DDs.get {S : Addr → Prop} {H : Hp} : ∀ {vs : List V} {ds : List PyData} {i : Nat} {v : V}, DDs S H vs ds → vs[i]? = some v → ∃ d, ds[i]? = some d ∧ DD S H v d
  | _, _, _, _, .nil, e => by simp at e
  | _, _, 0, _, .cons h r, e => by simp at e; subst e; exact ⟨_, rfl, h⟩
  | _, _, i + 1, v, .cons h r, e => by
    obtain ⟨d, h1, h2⟩ := DDs.get (i := i) (v := v) r (by simpa using e)
    exact ⟨d, by simpa using h1, h2⟩
theorem DDs.take {S : Addr → Prop} {H : Hp} : ∀ {vs : List V} {ds : List PyData} (n : Nat), DDs S H vs ds → DDs S H (vs.take n) (ds.take n)
  | _, _, 0, _ => by simp; exact .nil
  | _, _, n + 1, .nil => by simp; exact .nil
  | _, _, n + 1, .cons h r => .cons h (DDs.take n r)
theorem DDs.drop {S : Addr → Prop} {H : Hp} : ∀ {vs : List V} {ds : List PyData} (n : Nat), DDs S H vs ds → DDs S H (vs.drop n) (ds.drop n)
  | _, _, 0, r => r
  | _, _, n + 1, .nil => by simp; exact .nil
  | _, _, n + 1, .cons h r => DDs.drop n r
theorem DDs.rev {S : Addr → Prop} {H : Hp} : ∀ {vs : List V} {ds : List PyData}, DDs S H vs ds → DDs S H vs.reverse ds.reverse
  | _, _, .nil => .nil
  | _, _, .cons h r => by rw [List.reverse_cons, List.reverse_cons]; exact DDs.append (DDs.rev r) (.cons h .nil)
/-- some arrangement of the values is one of the data -/
theorem DDs.perm {S : Addr → Prop} {H : Hp} {vs ws : List V} (p : vs.Perm ws) : ∀ {ds : List PyData}, DDs S H vs ds → ∃ es, ds.Perm es ∧ DDs S H ws es := by
  induction p with
  | nil => intro ds h; exact ⟨ds, .refl _, h⟩
  | cons x _ ih =>
    intro ds h
    cases h with
    | cons h1 h2 =>
      obtain ⟨es, p, q⟩ := ih h2
      exact ⟨_, p.cons _, .cons h1 q⟩
  | swap x y l =>
    intro ds h
    cases h with
    | cons h1 h2 =>
      cases h2 with
      | cons h3 h4 => exact ⟨_, .swap _ _ _, .cons h3 (.cons h1 h4)⟩
  | trans _ _ ih1 ih2 =>
    intro ds h
    obtain ⟨es, p, q⟩ := ih1 h
    obtain ⟨fs, p2, q2⟩ := ih2 q
    exact ⟨fs, p.trans p2, q2⟩

/-! ### DD and what the machine reads -/
section
variable {X : Cx} {pins : List (Addr × Obj)} {σ : St} {S : Addr → Prop} {H : Hp} {s : Shared}
theorem Inv.noSys (I : Inv X pins σ H s) (hS : ∃ o, X.base.get? sysModules = some o) : H sysModules = none := by
  obtain ⟨o, e⟩ := hS
  exact (I.bs _ _ e).2
theorem keysReads {h : Heap} {P : Program} {w : World} : ∀ {es : List DictEntry} {vs : List (Key × Value)}, Pairs (mixKind P w) es vs → ∃ as, ReadsAll h (es.map (·.key)) (vs.map fun p => kD p.1) as ∧ as = []
  | _, _, .nil => ⟨_, .nil, rfl⟩
  | _, _, .cons (e := e) (kv := kv) h1 _ r => by
    obtain ⟨as, q, en⟩ := keysReads (h := h) r
    subst en
    rw [mixKind_is] at h1
    rcases keyIs_shape h1 with ⟨i, t, e1, e2⟩ | ⟨x, t, e1, e2⟩
    · exact ⟨_, by rw [List.map_cons, List.map_cons, e1, e2]; exact .cons (.int i t) q, rfl⟩
    · exact ⟨_, by rw [List.map_cons, List.map_cons, e1, e2]; exact .cons (.str x t) q, rfl⟩
theorem pairs_vals {P : Program} {w : World} : ∀ {es : List DictEntry} {vs : List (Key × Value)}, Pairs (mixKind P w) es vs → es.map (·.val) = vs.map (·.2)
  | _, _, .nil => rfl
  | _, _, .cons _ h2 r => by rw [List.map_cons, List.map_cons, h2, pairs_vals r]
theorem KV.keys {kvs : List (Key × V)} {vs : List (Key × Value)} (r : KV kvs vs) : (vs.map fun p => kD p.1) = kvs.map fun p => kD p.1 := by
  induction r with
  | nil => rfl
  | cons h _ ih => rw [List.map_cons, List.map_cons, ih, h.1]
theorem KV.vals {kvs : List (Key × V)} {vs : List (Key × Value)} (r : KV kvs vs) : Vals (kvs.map (·.2)) (vs.map (·.2)) := by
  induction r with
  | nil => exact .nil
  | cons h _ ih => exact .cons h.2 ih
theorem zip_fst {α β : Type} : ∀ {as : List α} {bs : List β}, as.length = bs.length → (as.zip bs).map (·.1) = as
  | [], [], _ => rfl
  | a :: as, b :: bs, h => by rw [List.zip_cons_cons, List.map_cons, zip_fst (by simpa using h)]
theorem zip_snd {α β : Type} : ∀ {as : List α} {bs : List β}, as.length = bs.length → (as.zip bs).map (·.2) = bs
  | [], [], _ => rfl
  | a :: as, b :: bs, h => by rw [List.zip_cons_cons, List.map_cons, zip_snd (by simpa using h)]
theorem reads_dct (I : L2.Inv X pins σ H s) {a : Addr} {kvs : List (Key × V)} {ds : List PyData} (hs : H a = some (.dK kvs)) (hl : kvs.length = ds.length)
    (q : ∀ us, Vals (kvs.map (·.2)) us → ∃ as, ReadsAll s.heap us ds as ∧ sysModules ∉ as) : ∃ as, Reads s.heap (.ref a) (.dict ((kvs.map fun p => kD p.1).zip ds)) as ∧ sysModules ∉ as := by
  obtain ⟨_, sy, vs, kv, o, es, ep, ho, hx, hd, _, hp, _⟩ := (show ObjOk X.prog X.w H s.heap a (.dK kvs) from I.hok a _ hs)
  have hl2 : (kvs.map fun p => kD p.1).length = ds.length := by rw [List.length_map]; exact hl
  obtain ⟨as, q1, en⟩ := keysReads (h := s.heap) hp
  subst en
  obtain ⟨bs, q2, q3⟩ := q _ (KV.vals kv)
  rw [← pairs_vals hp] at q2
  refine ⟨_, Reads.dict ho hx.1 hd (by rw [zip_fst hl2, ← KV.keys kv]; exact q1) (by rw [zip_snd hl2]; exact q2), ?_⟩
  simp only [List.cons_append, List.nil_append, List.mem_cons, not_or]
  exact ⟨fun z => by rw [z] at sy; simp at sy, q3⟩
mutual
theorem DD.reads (I : L2.Inv X pins σ H s) (hS : H sysModules = none) : ∀ {v : V} {d : PyData}, DD S H v d → ∀ u : Value, RelV v u → ∃ as, Reads s.heap u d as ∧ sysModules ∉ as
  | _, _, .non, _, r => by
    cases r
    exact ⟨_, Reads.none, by simp⟩
  | _, _, .bl b, _, r => by
    cases r
    exact ⟨_, Reads.bool b, by simp⟩
  | _, _, .int i, _, r => by
    obtain ⟨t, rfl⟩ := r
    exact ⟨_, Reads.int i t, by simp⟩
  | _, _, .str x, _, r => by
    obtain ⟨t, rfl⟩ := r
    exact ⟨_, Reads.str x t, by simp⟩
  | _, _, .lst n hs ha, _, r => by
    cases r
    obtain ⟨its, rv, ⟨o, n, ho, hc, _, hd⟩, _⟩ := I.list (.inl (.inl hs))
    obtain ⟨as, hr, hn⟩ := DDs.readsAll I hS ha its rv
    refine ⟨_, Reads.list ho hc hd hr, ?_⟩
    simp only [List.mem_cons, not_or]
    exact ⟨fun e => by (rw [← e, hS] at hs; cases hs), hn⟩
  | _, _, .tup hs ha, _, r => by
    cases r
    obtain ⟨its, rv, ⟨o, ho, hc, n, hd⟩, _⟩ := I.tuple (.inl (.inl hs))
    obtain ⟨as, hr, hn⟩ := DDs.readsAll I hS ha its rv
    exact ⟨_, Reads.tuple ho hc hd hr, hn⟩
  | _, _, .dct n hs ha, _, r => by
    cases r
    have hl := DDs.length ha
    rw [List.length_map] at hl
    exact reads_dct I hs hl fun us ru => DDs.readsAll I hS ha us ru
theorem DDs.readsAll (I : L2.Inv X pins σ H s) (hS : H sysModules = none) : ∀ {vs : List V} {ds : List PyData}, DDs S H vs ds → ∀ us : List Value, Vals vs us → ∃ as, ReadsAll s.heap us ds as ∧ sysModules ∉ as
  | _, _, .nil, _, r => by
    cases r
    exact ⟨_, ReadsAll.nil, by simp⟩
  | _, _, .cons h1 h2, _, r => by
    cases r with
    | cons r1 r2 =>
      obtain ⟨as, q1, n1⟩ := DD.reads I hS h1 _ r1
      obtain ⟨bs, q2, n2⟩ := DDs.readsAll I hS h2 _ r2
      exact ⟨_, ReadsAll.cons q1 q2, by rw [List.mem_append, not_or]; exact ⟨n1, n2⟩⟩
end
end
end LB

namespace LB
open PySem PySem.Spec PyProof.Rows L2

/-! ### defs whose callers repr nothing (no guard lies around): needed for repr -/
/-- a promise that holds wherever no repr is under way -/
structure FnG (P : Program) (w : World) (K : PySem.W.Frag) (mg : Str → Option Value) (base : Heap) (CX : CXT)
    (k : Nat) (f : Addr) (fd : FuncData) (ps : List Str) (sp : Sp) : Prop where
  arity : ∀ vs H Q E, sp vs H Q E → vs.length = ps.length
  goes : ∀ (A : Around) (outer : List Env) (s : Shared) (H : Hp) (args : Args) (us : List Value) (vs : List V)
    (Q : VK) (E : XK), Room k A → A.guards = some [] → Env0 P w K mg base A outer s H →
    BindsTo s fd args (ps.zip us) → Vals vs us → sp vs H Q E →
    codeAny (model P w) A (.call (.ref f) args) (CR CX outer P w H s Q E) s

section
variable {P : Program} {w : World} {K : PySem.W.Frag} {mg : Str → Option Value} {base : Heap} {CX : CXT}
/-- the body of a def: its names laid, the body run -/
theorem fn_g {x qual : Str} {st : Stmt} {f : Addr} {fd : FuncData} {N ps : List Str} {k : Nat} {sp : Sp}
    (F : Fun K x qual st f fd) (S : FnScope N ps (defScope st)) (ar : ∀ vs H Q E, sp vs H Q E → vs.length = ps.length)
    (bd : ∀ (cdv : Value) (A : Around) (outer : List Env) (s : Shared) (H : Hp) (vs : List V) (Q : VK) (E : XK),
      Room k (A.deeper (envOfC qual (defScope st) s.heap.objs.size f cdv)) → A.guards = some [] → sp vs H Q E →
      ∃ t, PSs (cxOf CX P w K mg base N qual (defScope st) f cdv A outer s H E) (defBody st) t ∧
        t { nx := fun _ H' => Q .non H', rt := Q } (start N vs) H) :
    FnG P w K mg base CX (k + 1) f fd ps sp where
  arity := ar
  goes := by
    intro A outer s H args us vs Q E room gd env0 binds vals hs
    obtain ⟨_, _, _, _, _, _, cdv, _, _, efd, look, code⟩ := F.ex
    subst efd
    have KIn : K.In s.heap := env0.mod.kin.keeps (fun a b c => (env0.bs a b c).1)
    have hkinds : ∀ z ∈ ps.zip us, (defScope st).names.lookup z.1 = some .local ∨
        ((defScope st).names.lookup z.1 = some .cell ∧ ((cellsFrom (s.heap.objs.size + 1) (defScope st).names []).lookup z.1).isSome = true) := by
      rintro ⟨n, u⟩ hz
      rcases S.par n (List.of_mem_zip hz).1 with h | h
      · exact Or.inl h
      · exact Or.inr ⟨h, PySem.W.cellsFrom_some _ _ _ (Or.inl h)⟩
    refine codeAny_call_function room.depth (KIn _ _ look) rfl S.co S.gen rfl
      (PySem.W.codeRec_of KIn code) (binds _ _ _ _ (wpAny_newFunctionEnv_cells S.kind hkinds ?_))
    intro env henv s1 IC
    cases henv
    refine ⟨(env0.mod.nolimit.keeps (fun a b c => (env0.bs a b c).1)).keeps IC.toInCall.keep, codeAny_func ?_⟩
    obtain ⟨t, der, rd⟩ := bd cdv A outer s H vs Q E (room.deeper _) gd hs
    have I0 : L2.Inv (cxOf CX P w K mg base N qual (defScope st) f cdv A outer s H E) [] (start N vs) H s1 :=
      inv_start S room.hd env0 (ar _ _ _ _ hs) vals IC
    refine wpAny_mono (der.run [] s1 (start N vs) H _ I0 rd) ?_ (fun _ _ h => h)
    intro fl s2 h
    match fl, h with
    | .ret u, ⟨v, _, H2, J, r, q⟩ => exact ⟨v, H2, J.os, J.bare, J.base, J.hok, r, q⟩
    | .next, ⟨_, H2, J, q⟩ => exact ⟨V.non, H2, J.os, J.bare, J.base, J.hok, rfl, q⟩
    | .brk, ⟨_, _, _, q⟩ => exact False.elim q
    | .cont, ⟨_, _, _, q⟩ => exact False.elim q
end

section
variable {X : Cx} {CX : CXT} {k j : Nat} {f : Addr} {fd : FuncData} {ps ks : List Str} {sp : Sp} {x : Str} {p pos : Pos}
  {e : Expr} {es : List Expr} {t tk : TA} {ds : List Value} {dvs : List V} {E : XK} {kws : List Keyword}
/-- the call itself, its arguments known -/
theorem go_g {pins : List (Addr × Obj)} {σ : LB.St} {H : Hp} {s : Shared} {Q : VK} {args : Args} {us : List Value} {vs : List V}
    (F : FnG X.prog X.w X.K X.mg X.base CX k f fd ps sp) (hr : Room k X.A) (gd : X.A.guards = some [])
    (hx : Passes CX X E) (I : L2.Inv X pins σ H s) (bn : BindsTo s fd args (ps.zip us)) (r : Vals vs us) (h : sp vs H Q E) :
    wpAny (model X.prog X.w) X.A (PySem.call (.ref f) args.pos args.kw) (EP X pins σ Q) X.xe s := by
  refine wpAny_call (codeAny_mono (F.goes X.A X.stack s H args us vs Q E hr gd I.env0 bn r h) ?_)
  intro r' s' z
  match r', z with
  | .error _, z => exact hx _ _ _ _ _ _ I z
  | .ok (.ret _), z => exact I.after z
  | .ok .next, z => exact False.elim z
  | .ok .brk, z => exact False.elim z
  | .ok .cont, z => exact False.elim z
end

/-- a def by its name, its arguments by position -/
structure CalG (P : Program) (w : World) (K : PySem.W.Frag) (mg : Str → Option Value) (base : Heap) (CX : CXT) (k : Nat) (x : Str) (sp : Sp) : Prop where
  is : ∃ (f : Addr) (fd : FuncData) (ps : List Str), FnG P w K mg base CX k f fd ps sp ∧ mg x = some (.ref f) ∧
    PySem.W.keepIn K (.ref f) = true ∧ ∀ us : List Value, us.length = ps.length → bindArgs fd ⟨us, []⟩ = pure (ps.zip us)
/-- .. its arguments partly or all by the names ks; pi: how they come to the parameters -/
structure KalG (P : Program) (w : World) (K : PySem.W.Frag) (mg : Str → Option Value) (base : Heap) (CX : CXT) (k : Nat) (x : Str) (n : Nat) (ks : List Str)
    (pi : {α : Type} → List α → List α → List α) (sp : Sp) : Prop where
  is : ∃ (f : Addr) (fd : FuncData) (ps : List Str), FnG P w K mg base CX k f fd ps sp ∧ mg x = some (.ref f) ∧
    PySem.W.keepIn K (.ref f) = true ∧ (∀ us ws : List Value, us.length = n → ws.length = ks.length → bindArgs fd ⟨us, ks.zip ws⟩ = pure (ps.zip (pi us ws))) ∧
    ∀ (vs : List V) (us : List Value) (zs : List V) (ws : List Value), us.length = n → ws.length = ks.length → Vals vs us → Vals zs ws → Vals (pi vs zs) (pi us ws)
section
variable {X : Cx} {CX : CXT} {k j n : Nat} {sp : Sp} {x : Str} {p pos : Pos}
  {e : Expr} {es : List Expr} {t tk : TA} {E : XK} {kws : List Keyword} {ks : List Str} {pi : {α : Type} → List α → List α → List α}
theorem pe_g (c : CalG X.prog X.w X.K X.mg X.base CX k x sp) (hr : Room j X.A) (hk : k ≤ j) (gd : X.A.guards = some []) (hx : Passes CX X E)
    (gl : Gl X x) (ha : PA X (e :: es) t) (dbg : (x == ("__debug__" : Str)) = false := by decide)
    (st : starEach (e :: es) X.env = (false, eval e X.env) :: starEach es X.env := by rfl)
    (pl : (backTo pos (starEach es X.env)).any (·.1) = false := by rfl) : PE X (.Call (.Name x p) (e :: es) [] pos) (tCall sp [] E t) := by
  obtain ⟨f, fd, ps, F, hm, kp, bn⟩ := c.is
  constructor
  intro pins s σ H Q I h
  refine wpAny_Call_Name_kw (ld_glob I gl hm ?_ dbg)
  refine PySem.W.callWith_K (h₀ := X.base) I.ok.mod.kin kp ?_ st pl
  refine thn (ha.run pos pins s σ H _ I h) ?_
  rintro us s1 ⟨vs, H1, I1, r, q⟩
  rw [List.append_nil] at q
  have hl : us.length = ps.length := by rw [← r.length]; exact F.arity _ _ _ _ q
  exact ⟨I1.kIn, go_g (args := ⟨us, []⟩) F (hr.mono hk) gd hx I1 (BindsTo.of_eq (bn us hl)) r q⟩
theorem pe_g0 (c : CalG X.prog X.w X.K X.mg X.base CX k x sp) (hr : Room j X.A) (hk : k ≤ j) (gd : X.A.guards = some []) (hx : Passes CX X E)
    (gl : Gl X x) (dbg : (x == ("__debug__" : Str)) = false := by decide) : PE X (.Call (.Name x p) [] [] pos) (tCall sp [] E tNil) := by
  obtain ⟨f, fd, ps, F, hm, kp, bn⟩ := c.is
  constructor
  intro pins s σ H Q I h
  refine wpAny_Call_Name_kw (ld_glob I gl hm ?_ dbg)
  have hl : ([] : List Value).length = ps.length := F.arity _ _ _ _ h
  exact PySem.W.callWith_K0 I.kIn kp (go_g (args := ⟨[], []⟩) F (hr.mono hk) gd hx I (BindsTo.of_eq (bn [] hl)) .nil h)
/-- f(k = v, ..), no argument by position -/
def tCallW (sp : Sp) (pi : {α : Type} → List α → List α → List α) (m : Nat) (E : XK) (tk : TA) : TE := fun σ H Q => tk σ H fun zs H1 => zs.length = m ∧ sp (pi [] zs) H1 Q E
theorem pe_gw (c : KalG X.prog X.w X.K X.mg X.base CX k x 0 ks pi sp) (hr : Room j X.A) (hk : k ≤ j) (gd : X.A.guards = some []) (hx : Passes CX X E)
    (gl : Gl X x) (hkw : PK X kws tk) (dbg : (x == ("__debug__" : Str)) = false := by decide)
    (all : (backToKw pos (keywordEach kws X.env)).all (·.1.isSome) = true := by rfl) (hks : (backToKw pos (keywordEach kws X.env)).filterMap (·.1) = ks := by rfl)
    (pl : ((backTo pos (starEach [] X.env)).any (·.1) || (backToKw pos (keywordEach kws X.env)).any (·.1.isNone)) = false := by rfl) :
    PE X (.Call (.Name x p) [] kws pos) (tCallW sp pi ks.length E tk) := by
  obtain ⟨f, fd, ps, F, hm, kp, bn, rl⟩ := c.is
  constructor
  intro pins s σ H Q I h
  refine wpAny_Call_Name_kw (ld_glob I gl hm ?_ dbg)
  refine PySem.W.callWith_KW0 (h₀ := X.base) I.ok.mod.kin kp all ?_ pl
  refine thn (hkw.run pos pins s σ H _ I h) ?_
  rintro ws s1 ⟨zs, H1, I1, r, hz, q⟩
  rw [hks]
  have hw : ws.length = ks.length := by rw [← r.length]; exact hz
  exact ⟨I1.kIn, go_g (args := ⟨[], ks.zip ws⟩) F (hr.mono hk) gd hx I1 (BindsTo.of_eq (bn [] ws rfl hw)) (rl _ _ _ _ rfl hw .nil r) q⟩
/-- f(e, .., k = v, ..) -/
def tCallV (sp : Sp) (pi : {α : Type} → List α → List α → List α) (n m : Nat) (E : XK) (t tk : TA) : TE := fun σ H Q => t σ H fun vs H1 => tk σ H1 fun zs H2 => vs.length = n ∧ zs.length = m ∧ sp (pi vs zs) H2 Q E
theorem pe_gv (c : KalG X.prog X.w X.K X.mg X.base CX k x n ks pi sp) (hr : Room j X.A) (hk : k ≤ j) (gd : X.A.guards = some []) (hx : Passes CX X E)
    (gl : Gl X x) (ha : PA X (e :: es) t) (hkw : PK X kws tk) (dbg : (x == ("__debug__" : Str)) = false := by decide)
    (all : (backToKw pos (keywordEach kws X.env)).all (·.1.isSome) = true := by rfl) (hks : (backToKw pos (keywordEach kws X.env)).filterMap (·.1) = ks := by rfl)
    (st : starEach (e :: es) X.env = (false, eval e X.env) :: starEach es X.env := by rfl)
    (pl : ((backTo pos (starEach (e :: es) X.env)).any (·.1) || (backToKw pos (keywordEach kws X.env)).any (·.1.isNone)) = false := by rfl) :
    PE X (.Call (.Name x p) (e :: es) kws pos) (tCallV sp pi n ks.length E t tk) := by
  obtain ⟨f, fd, ps, F, hm, kp, bn, rl⟩ := c.is
  constructor
  intro pins s σ H Q I h
  refine wpAny_Call_Name_kw (ld_glob I gl hm ?_ dbg)
  refine PySem.W.callWith_KW (h₀ := X.base) I.ok.mod.kin kp all ?_ pl st
  refine thn (ha.run pos pins s σ H _ I h) ?_
  rintro us s1 ⟨vs, H1, I1, r1, q1⟩
  refine thn (hkw.run pos pins s1 σ H1 _ I1 q1) ?_
  rintro ws s2 ⟨zs, H2, I2, r2, hv, hz, q⟩
  rw [hks]
  have hu : us.length = n := by rw [← r1.length]; exact hv
  have hw : ws.length = ks.length := by rw [← r2.length]; exact hz
  exact ⟨I2.kIn, go_g (args := ⟨us, ks.zip ws⟩) F (hr.mono hk) gd hx I2 (BindsTo.of_eq (bn us ws hu hw)) (rl _ _ _ _ hu hw r1 r2) q⟩
end

/-! ### repr -/
theorem showable_dd {S : Addr → Prop} {H : Hp} {d : PyData} (_ : True) : d.showable = true → d.showable = true := id
/-- repr(x), x data -/
def rRepr : List V → Hp → VK → Prop := fun xs H Q => ∃ (x : V) (d : PyData) (S : Addr → Prop), xs = [x] ∧ DD S H x d ∧ d.showable = true ∧ d.depth ≤ 60 ∧ d.shown.length ≤ sizeLine ∧ Q (.str d.shown) H
theorem call_repr {X : Cx} {k : Nat} (gd : X.A.guards = some []) (hr : Room k X.A) (hS : ∃ o, X.base.get? sysModules = some o) : CallR X (.builtin "repr") rRepr := by
  intro pins s σ H xs us Q I r h
  obtain ⟨x, d, S, rfl, hd, sh, dp, sz, q⟩ := h
  obtain ⟨u, eu, rx⟩ : ∃ u, us = [u] ∧ RelV x u := by
    cases r with
    | cons h1 h2 => cases h2; exact ⟨_, rfl, h1⟩
  subst eu
  obtain ⟨as, rd, ns⟩ := DD.reads I (Inv.noSys I hS) hd u rx
  have fin : ∀ (g : Heap) (t tk : Tok), (∀ b o, s.heap.get? b = some o → g.get? b = some o) → EP X pins σ Q (.str d.shown t) { s with heap := g, toks := tk } :=
    fun g t tk hk => ⟨.str d.shown, H, (I.kept hk), ⟨t, rfl⟩, q⟩
  have un := hr.un
  cases hd with
  | non => cases rx; exact PySem.P.repr_of_none (fin s.heap _ _ fun _ _ h => h)
  | bl b => cases rx; exact PySem.P.repr_of_bool (fin s.heap _ _ fun _ _ h => h)
  | int i =>
    obtain ⟨t, rfl⟩ := rx
    exact PySem.P.repr_of_int (by simpa [PyData.showable] using sh) (fin s.heap _ _ fun _ _ h => h)
  | str y =>
    obtain ⟨t, rfl⟩ := rx
    exact PySem.P.repr_of_str (fin s.heap _ _ fun _ _ h => h) sz
  | tup h1 h2 =>
    cases rx
    exact repr_of_reads' rd sh (fun _ => ns) gd (by omega) (fun _ _ h => h) (fun g t tk hk => fin g t tk hk) sz
  | lst n h1 h2 =>
    cases rx
    exact repr_of_reads' rd sh (fun _ => ns) gd (by omega) (fun _ _ h => h) (fun g t tk hk => fin g t tk hk) sz
  | dct n h1 h2 =>
    cases rx
    exact repr_of_reads' rd sh (fun _ => ns) gd (by omega) (fun _ _ h => h) (fun g t tk hk => fin g t tk hk) sz
end LB

namespace LB
open PySem PySem.Spec PyProof.Rows L2
/-! ### readings by short names -/
abbrev rAddI : R2 := rI0 fun i j => .int (i + j)
abbrev rSubI : R2 := rI0 fun i j => .int (i - j)
abbrev rModI : R2 := rI (fun _ j => j ≠ 0) fun i j => .int (i.fmod j)
abbrev rFdvI : R2 := rI CDivN fun i j => .int (i.fdiv j)
def CPowW (i j : Int) : Prop := 0 ≤ j ∧ (Builtin.Int.intBits i : Int) * j ≤ 2 ^ 27
abbrev rPowI : R2 := rI CPowW fun i j => .int (i ^ j.toNat)
abbrev rNegI : V → Hp → VK → Prop := rU fun i => .int (-i)
abbrev rLtI : R2 := rI0 fun i j => .bl (decide (i < j))
abbrev rLeI : R2 := rI0 fun i j => .bl (decide (i ≤ j))
abbrev rGtI : R2 := rI0 fun i j => .bl (decide (j < i))
abbrev rGeI : R2 := rI0 fun i j => .bl (decide (j ≤ i))
abbrev rAbs : List V → Hp → VK → Prop := fun xs H Q => ∃ i, xs = [.int i] ∧ Q (.int (if i < 0 then -i else i)) H
abbrev rInt1 : List V → Hp → VK → Prop := fun xs H Q => (∃ i, xs = [.int i] ∧ Q (.int i) H) ∨ ∃ k, xs = [.bl k] ∧ Q (.int (if k then 1 else 0)) H
abbrev rStrInt : List V → Hp → VK → Prop := fun xs H Q => ∃ i, xs = [.int i] ∧ i.natAbs.log2 < 1920 ∧ Q (.str (toString i)) H
abbrev rMax2 : List V → Hp → VK → Prop := fun xs H Q => ∃ i j, xs = [.int i, .int j] ∧ Q (.int (if j > i then j else i)) H
abbrev rMin2 : List V → Hp → VK → Prop := fun xs H Q => ∃ i j, xs = [.int i, .int j] ∧ Q (.int (if j < i then j else i)) H
abbrev rListOf (K : PySem.W.Frag) : List V → Hp → VK → Prop := fun xs H Q => ∃ p ys, xs = [.ref p] ∧ (SqL K H p ys ∨ SqT K H p ys) ∧ ∀ l, H l = none → Q (.ref l) (upd H l (.lst ys))
abbrev rTupOf (K : PySem.W.Frag) : List V → Hp → VK → Prop := fun xs H Q => ∃ p ys, xs = [.ref p] ∧ ((SqL K H p ys ∧ ∀ l, H l = none → Q (.ref l) (upd H l (.tup ys))) ∨ (SqT K H p ys ∧ Q (.ref p) H))
abbrev rUpper : V → List V → Hp → VK → Prop := fun x xs H Q => ∃ a, x = .str a ∧ xs = [] ∧ a.length ≤ 5592405 ∧ Q (.str (Txt.upper a)) H
abbrev rAddS : R2 := fun x y H Q => ∃ i j, x = .str i ∧ y = .str j ∧ i.length + j.length ≤ sizeLine ∧ Q (.str (i ++ j)) H
def rAddA (K : PySem.W.Frag) : R2 := fun x y H Q => rAddI x y H Q ∨ rAddS x y H Q ∨ rCat x y H Q ∨ rCatA K x y H Q
def rMulA (K : PySem.W.Frag) : R2 := fun x y H Q => rI CMul (fun i j => .int (i * j)) x y H Q ∨ rI CMulW (fun i j => .int (i * j)) x y H Q ∨ rRep x y H Q ∨ rRepT K x y H Q
def rInA (K : PySem.W.Frag) : R2 := fun x y H Q => rIn K false x y H Q ∨ rInD K x y H Q
def rNiA (K : PySem.W.Frag) : R2 := fun x y H Q => rIn K true x y H Q ∨ rNotInD K x y H Q
abbrev rIsN1 : R2 := fun x y H Q => y = .non ∧ Q (.bl (decide (x = .non))) H
abbrev rNotN1 : R2 := fun x y H Q => y = .non ∧ Q (.bl (!decide (x = .non))) H
def rIsA : R2 := fun x y H Q => rIsN1 x y H Q ∨ rIsB x y H Q
def rNotA : R2 := fun x y H Q => rNotN1 x y H Q ∨ rNotB x y H Q
def rSlAny (K : PySem.W.Frag) : V → Option Int → Option Int → Hp → VK → Prop := fun x lo hi H Q => rSlL K x lo hi H Q ∨ rSlA K x lo hi H Q ∨ rSlS x lo hi H Q
def tTr (K : PySem.W.Frag) (ta : TE) : TT := fun σ H Q => ta σ H fun x H' => ∃ k, TruV K x H' k ∧ Q k H'
def iSeq (K : PySem.W.Frag) (tl : TE) : TI := fun σ H R => iList K tl σ H R ∨ iTup K tl σ H R
section
variable {X : Cx}
theorem op_powW : OpR X (binaryOp .Pow) rPowI := opI fun _ _ _ _ _ _ _ hc q => pow_int hc.1 hc.2 q
theorem op_addA : OpR X (binaryOp .Add) (rAddA X.K) := op_add.or (op_add_str.or (op_cat.or op_catA))
theorem op_mulA : OpR X (binaryOp .Mult) (rMulA X.K) := op_mul.or (op_mulW.or (op_rep.or op_repT))
theorem op_inA (u : X.A.units + 65 < cLine) : OpR X (compareOp .In) (rInA X.K) := op_in_seq.or (op_inD u)
theorem op_niA (u : X.A.units + 65 < cLine) : OpR X (compareOp .NotIn) (rNiA X.K) := op_notIn_seq.or (op_notInD u)
theorem op_isA : OpR X (compareOp .Is) rIsA := op_isN.or op_isBl
theorem op_notA : OpR X (compareOp .IsNot) rNotA := op_notN.or op_notBl
theorem sl_any : SlR X (rSlAny X.K) := sl_list.or (sl_tupA.or sl_str)
theorem pi_seq {tg l : Expr} {tl : TE} (h : PE X l tl) : PI X tg l (iSeq X.K tl) := by
  constructor
  intro pins s σ H R I q
  rcases q with q | q
  · exact (pi_list h).run pins s σ H R I q
  · exact (pi_tup h).run pins s σ H R I q
theorem units65 {k : Nat} {A : Around} (r : Room k A) : A.units + 65 < cLine := by
  have := r.un
  omega
end
end LB

namespace LB
open PySem PySem.Spec PyProof.Rows L2
/-! ### the end of a law, its def promised where no repr is under way -/
section
variable {P : Program} {w : World} {K : PySem.W.Frag} {mg mb : Str → Option Value} {k : Nat} {fa a : Addr} {fd : FuncData} {x : Str} {sp : Sp} {s1 : Shared} {vs : List Value} {ns : List Int}
/-- what a law's call must leave -/
abbrev GoodEnd (s1 : Shared) : Result → Shared → Prop := fun r s' =>
  r = .ok (.ret (.bool true)) ∧ OldK s1.heap s'.heap ∧ s'.os = s1.os ∧ AllBare s'.gens
theorem law_core {H : Hp} (only : Only H) (sq : SqL K H a (ns.map V.int)) (hok : HOk P w H s1.heap) (at_ : ∀ b, H b ≠ none → b = a) (nk : H a ≠ none → K.lookup a = none)
    (kin : K.In s1.heap) (glo : s1.heap.Ns mainGlobals mg) (blt : s1.heap.Ns builtinsNs mb) (boot : ∀ y : Str, y ≠ "__name__" → mb y = bootBuiltins y)
    (lim : s1.heap.NoLimit) (seer : s1.heap.NoSeer) (bare : s1.gens = #[]) (obj : s1.heap.get? a = some { cls := .type "list", data := .seq vs.toArray })
    (room : Room k callerA) (F : ∀ base : Heap, K.In base → base.Ns mainGlobals mg → (∃ o, base.get? sysModules = some o) → FnG P w K mg base CX0 k fa fd [x] sp)
    (bind : ∀ (s : Shared) (u : Value), BindsTo s fd ⟨[u], []⟩ [(x, u)]) (hsp : sp [.ref a] H (fun v _ => v = .bl true) fun _ _ _ => False) :
    codeAny (model P w) callerA (.call (.ref fa) ⟨[.ref a], []⟩) (GoodEnd s1) s1 := by
  -- an object that is no list is not tracked
  have off : ∀ {b : Addr} {o : Obj}, s1.heap.get? b = some o → (b = a → False) → H b = none := by
    intro b o _ hb
    cases q : H b with
    | none => rfl
    | some u => exact (hb (at_ b (by rw [q]; exact fun z => by cases z))).elim
  have dic : ∀ {b : Addr} {m : Str → Option Value}, s1.heap.Ns b m → (hidT s1.heap H).Ns b m := by
    rintro b m ⟨o, es, ep, e, d, rest⟩
    refine ⟨o, es, ep, hidT_get e (off e fun z => ?_), d, rest⟩
    subst z
    rw [obj] at e
    cases e
    cases d
  have kin2 : K.In (hidT s1.heap H) := by
    intro b o e
    refine hidT_get (kin b o e) ?_
    cases q : H b with
    | none => rfl
    | some u =>
      have hb := at_ b (by rw [q]; exact fun z => by cases z)
      subst hb
      rw [nk (by rw [q]; exact fun z => by cases z)] at e
      cases e
  obtain ⟨ml, l1, l2⟩ := lim
  have md : Mod K mg (hidT s1.heap H) := { kin := kin2, glob := dic glo, blt := ⟨mb, dic blt, boot⟩, nolimit := ⟨ml, dic l1, l2⟩ }
  have env0 : Env0 P w K mg (hidT s1.heap H) callerA [] s1 H :=
    { frames := rfl, mod := md, bs := fun b o e => of_hidT e, bsz := Nat.le_of_eq (hidT_size _ _), funs := trivial, frf := fun b hb => by (cases hb), hok := hok, bare := .of_eq bare }
  have run := (F _ kin2 (dic glo) (let ⟨_, hm, _⟩ := seer.mods; let ⟨o, _, _, e, _⟩ := dic hm; ⟨o, e⟩)).goes callerA [] s1 H ⟨[.ref a], []⟩ [.ref a] [.ref a] (fun v _ => v = .bl true) (fun _ _ _ => False)
    room rfl env0 (bind s1 (.ref a)) (Paired.cons rfl Paired.nil) hsp
  refine codeAny_mono run ?_
  intro r s2 h
  match r, h with
  | .error _, h => exact False.elim h
  | .ok .next, h => exact False.elim h
  | .ok .brk, h => exact False.elim h
  | .ok .cont, h => exact False.elim h
  | .ok (.ret u), ⟨v, H2, os, br, un, hok2, rv, q⟩ =>
    subst q
    cases rv
    refine ⟨rfl, OldK.of_keep fun b o e => ?_, os, br⟩
    cases q : H b with
    | none => exact un.keep b o e q (fun z => by cases z) (fun z => by cases z)
    | some u =>
      rcases only b with z | ⟨ob, xs, z⟩
      · rw [q] at z
        cases z
      · have e1 := (hok b _ z).1
        have e2 := (hok2 b _ (un.frzs b ob _ z)).1
        rw [e] at e1
        cases e1
        exact e2
/-- the heap in which the script alone is known, to the object -/
def scr (a : Addr) (vs : List Value) (ns : List Int) : Hp := fun b => if b = a then some (.frz { cls := .type "list", data := .seq vs.toArray } (.lst (ns.map V.int))) else none
theorem scr_at {a b : Addr} {vs : List Value} {ns : List Int} {u : HO} (h : scr a vs ns b = some u) : b = a ∧ u = .frz { cls := .type "list", data := .seq vs.toArray } (.lst (ns.map V.int)) := by
  unfold scr at h
  split at h
  · rename_i e
    exact ⟨e, (Option.some.inj h).symm⟩
  · cases h
theorem law_g (kin : K.In s1.heap) (glo : s1.heap.Ns mainGlobals mg) (blt : s1.heap.Ns builtinsNs mb) (boot : ∀ y : Str, y ≠ "__name__" → mb y = bootBuiltins y)
    (lim : s1.heap.NoLimit) (seer : s1.heap.NoSeer) (bare : s1.gens = #[]) (obj : s1.heap.get? a = some { cls := .type "list", data := .seq vs.toArray }) (hints : IntsAre vs ns) (len : ns.length ≤ sizeLine)
    (room : Room k callerA) (F : ∀ base : Heap, K.In base → base.Ns mainGlobals mg → (∃ o, base.get? sysModules = some o) → FnG P w K mg base CX0 k fa fd [x] sp)
    (bind : ∀ (s : Shared) (u : Value), BindsTo s fd ⟨[u], []⟩ [(x, u)])
    (hsp : ∀ H : Hp, Only H → SqL K H a (ns.map V.int) → sp [.ref a] H (fun v _ => v = .bl true) fun _ _ _ => False) :
    codeAny (model P w) callerA (.call (.ref fa) ⟨[.ref a], []⟩) (GoodEnd s1) s1 := by
  have rv := vals_ints hints
  cases hk : K.lookup a with
  | none =>
    have o1 : Only (scr a vs ns) := fun b => by
      cases q : scr a vs ns b with
      | none => exact Or.inl rfl
      | some u => exact Or.inr ⟨_, _, by rw [(scr_at q).2]⟩
    have s0 : SqL K (scr a vs ns) a (ns.map V.int) := Or.inl (Or.inr ⟨_, if_pos rfl⟩)
    refine law_core o1 s0 ?_ (fun b hb => ?_) (fun _ => hk) kin glo blt boot lim seer bare obj room F bind (hsp _ o1 s0)
    · intro b u q
      obtain ⟨e1, e2⟩ := scr_at q
      subst e1 e2
      exact ⟨obj, by rw [List.length_map]; exact len, vs, _, rv, obj⟩
    · cases q : scr a vs ns b with
      | none => exact (hb q).elim
      | some u => exact (scr_at q).1
  | some o =>
    have e := kin a o hk
    rw [obj] at e
    cases e
    have o1 : Only (fun _ => none) := fun b => Or.inl rfl
    have s0 : SqL K (fun _ => none) a (ns.map V.int) := Or.inr ⟨_, vs.toArray, _, hk, rfl, rfl, rfl, by rw [List.size_toArray, hints.length]; exact len, by simpa using rv⟩
    exact law_core o1 s0 (fun b u z => by cases z) (fun b hb => (hb rfl).elim) (fun hb => (hb rfl).elim) kin glo blt boot lim seer bare obj room F bind (hsp _ o1 s0)
end
theorem walk_g {l : PySem.W.OpenLaw} {n k : Nat} {q : Program} {loose : List Str} {XP : (Str → Option Value) → Heap → Prop} {YP : World → Heap → Prop} {d : DefRec}
    {K : Params → PySem.W.Frag} {sp : PySem.W.Frag → Sp} {x : Str} (most : l.most = some n) (small : n ≤ sizeLine) (nodef : d.params.defaults = []) (noimp : PyProof.Rows.importsNone q = true) (room : Room k callerA)
    (kin : ∀ (w : World) (h : Heap), YP w h → (K w.params).In h)
    (F : ∀ (w : World) (mg : Str → Option Value) (fa : Addr) (h : Heap), (K w.params).In h → h.Ns mainGlobals mg → mg d.name = some (.ref fa) →
      ∃ fd : FuncData, (∀ (s : Shared) (u : Value), BindsTo s fd ⟨[u], []⟩ [(x, u)]) ∧
        ∀ base : Heap, (K w.params).In base → base.Ns mainGlobals mg → (∃ o, base.get? sysModules = some o) → FnG l.prog w (K w.params) mg base CX0 k fa fd [x] (sp (K w.params)))
    (hsp : ∀ (K : PySem.W.Frag) (H : Hp) (a : Addr) (ns : List Int), ns.length ≤ n → Only H → SqL K H a (ns.map V.int) → sp K [.ref a] H (fun v _ => v = .bl true) fun _ _ _ => False) :
    PySem.W.WalkO q loose XP YP l.row.toRowW d [] (fun f us => PySem.call f us) := by
  apply Att.attach_call most nodef
  intro w s0 s1 mg mb fa o pm cd doc a vs ns G Y ho hd hcd hmg hobj hints hlen hg
  obtain ⟨fd, bind, hF⟩ := F w mg fa _ (kin w _ Y) G.T.g hmg
  exact law_g (kin w _ Y) G.T.g G.T.b G.T.builtins G.T.nolimit (G.T.seer noimp) hg hobj hints (Nat.le_trans hlen small) room hF bind fun H h1 h2 => hsp _ H a ns hlen h1 h2
end LB

namespace LB
open PySem PySem.Spec PyProof.Rows L2
open Builtin Builtin.Str Builtin.Int Builtin.Float
/-- so many blanks -/
def blanks (n : Nat) : Str := ⟨(List.replicate n 32).toArray⟩
def padR (n : Nat) (y : Str) : Str := blanks (n - y.length) ++ y
def padL (n : Nat) (y : Str) : Str := y ++ blanks (n - y.length)
theorem tl_blanks (n : Nat) : TL.tl (blanks n) = List.replicate n 32 := rfl
theorem len_blanks (n : Nat) : (blanks n).length = n := by rw [TL.len_tl, tl_blanks, List.length_replicate]
theorem padR_len (n : Nat) (y : Str) : (padR n y).length = max n y.length := by
  unfold padR; rw [Str.length_append, len_blanks]; omega
theorem padL_len (n : Nat) (y : Str) : (padL n y).length = max n y.length := by
  unfold padL; rw [Str.length_append, len_blanks]; omega
/-! ### the signs of a number -/
def intL (a : Int) : List Nat := if a < 0 then 45 :: TL.numL a.natAbs else TL.numL a.natAbs
theorem tl_int (a : Int) : TL.tl (Str.ofString (toString a)) = intL a := by
  unfold intL
  cases a with
  | ofNat m => rw [if_neg (by show ¬ ((m : Int) < 0); omega)]; exact TL.tl_num m
  | negSucc m =>
    rw [if_pos (Int.negSucc_lt_zero m), TL.tl_ofString]
    show (("-" ++ Nat.repr (m + 1)).toList).map Char.toNat = _
    have e := TL.tl_num (m + 1)
    rw [TL.tl_ofString] at e
    rw [String.toList_append, List.map_append]
    show ('-'.toNat :: []) ++ _ = _
    exact congrArg (45 :: ·) e
theorem len_int (a : Int) : (Str.ofString (toString a)).length = (intL a).length := by rw [TL.len_tl, tl_int]
/-! ### a number with its room: the format's text -/
section
variable {prog : Program} {w : World} {A : Around} {E : Value → Shared → Prop} {s : Shared}
theorem fmt_int_short {a : Int} {t : Tok} {sp : Str} {n : Nat} {Q : Value → Shared → Prop} (ha : a.natAbs.log2 < 1920) (hn : n ≤ 100) (hp : parseFormatSpec sp.cps.toList "int" 62 = .ok { align := 62, width := some n }) (hne : (sp.length == 0) = false)
    (hl : (sp.cps.back? == some 0) = false)
    (hasc : ((sp.cps.toList.drop 1).any (fun x => decide (x ≥ 128)) || (decide (sp.cps.getD 0 0 ≥ 128) && !([60, 62, 61, 94] : List Nat).contains (sp.cps.getD 1 0))) = false) (hz : sp.length ≤ sizeLine)
    (hlen : (padR n (toString a)).length ≤ sizeLine) (h : ∀ t' k, Q (.str (padR n (toString a)) t') { s with toks := k }) : wpAny (model prog w) A (formatField (.int a t) sp) Q E s := by
  refine PySem.W.KXf.field_meets hne (fun s' => typeIs_int s' a t) F.slot_int_format F.entry_int_format F.args_int_format_2 hz (fun u => ?_) h
  refine .of_wp fun prog w A R s h => ?_
  unfold Builtin.«int.__format__»
  simp only [selfAndOne, noKeywords, Int.intOfSelf, asInt?, asStr?, List.isEmpty_nil, if_true, pure_bind, bind_pure, bind_assoc, hne, hasc, Bool.false_eq_true, if_false, show (Value.str sp u == Value.none) = false from rfl]
  refine wpAny_bind (wpAny_typeNameOf (T := "str") (typeIs_str _ _ _) (by decide) fun _ => wpAny_bind (wpAny_typeNameOfCut_int ?_))
  simp only [hp, hl, Bool.false_eq_true, if_false, Option.getD_none]
  refine wpAny_ite_true (by decide +kernel) ?_
  show wpAny _ _ (do let r ← Builtin.overDigitLimit? a; _) _ _ _
  rw [PySem.overDigitLimit_small ha]
  show wpAny _ _ (if n > 100000 then _ else _) _ _ _
  refine wpAny_ite_false (by simp; omega) ?_
  show wpAny _ _ (retStr _) _ _ _
  refine (show ∀ (X : Str), X = padR n (Str.ofString (toString a)) → wpAny (model prog w) A.in1 (retStr X) _ _ s from fun X e => PySem.W.KXf.ret_text e (e ▸ hlen) fun t k => ⟨_, rfl, h t k⟩) _ ?_
  conv => lhs; whnf
  refine TL.ext_tl ?_
  unfold padR; rw [TL.tl_append, tl_blanks, tl_int, len_int]
  dsimp only [TL.tl]
  have hd := TL.numL_ne a.natAbs
  unfold intL; unfold TL.numL at hd ⊢
  simp only [show ((100 : Nat) == 88) = false from rfl, show ((32 : Nat) == 48) = false from rfl, Bool.false_and, Bool.false_eq_true, if_false, decide_eq_true_eq, List.replicate_zero, List.append_nil, List.length_nil]
  generalize (Nat.toDigits 10 a.natAbs).map Char.toNat = D at hd ⊢
  have he : D.isEmpty = false := by cases D with
    | nil => exact absurd rfl hd
    | cons _ _ => rfl
  rw [he]
  simp only [Bool.false_eq_true, if_false, Int.toNat_zero, Nat.zero_sub, List.replicate_zero, List.nil_append]
  by_cases h0 : a < 0
  · simp only [h0, if_true, List.length_cons, List.length_nil]
    rw [List.append_assoc, show ((n : Int) - (((0 + 1 : Nat) : Int) + ((0 : Nat) : Int) + ((0 : Nat) : Int)) - (D.length : Int)).toNat = n - (D.length + 1) by omega] <;> rfl
  · simp only [h0, if_false, List.length_nil, List.append_nil]
    rw [show ((n : Int) - (((0 : Nat) : Int) + ((0 : Nat) : Int) + ((0 : Nat) : Int)) - (D.length : Int)).toNat = n - D.length by omega]
theorem strField_lit {x : Str} {n : Nat} : strField x { align := 60, width := some n } "str" = .ok (if n ≤ x.length then none else some (padL n x)) := by
  unfold strField
  by_cases h : n ≤ x.length
  · rw [if_pos h]
    simp [h]
    rfl
  · rw [if_neg h]
    simp [h]
    refine congrArg (fun z => Except.ok (some z)) (TL.ext_tl ?_)
    unfold padL padded
    rw [TL.tl_append, tl_blanks]
    have e : strSub x 0 x.length = x := StrLaws.sub_whole x
    rw [e]
    simp [TL.tl]
/-- a text with its room -/
theorem fmt_str_room {x : Str} {t : Tok} {sp : Str} {n : Nat} {Q : Value → Shared → Prop} (hn : n ≤ 100) (hp : parseFormatSpec sp.cps.toList "str" 60 = .ok { align := 60, width := some n }) (hne : (sp.length == 0) = false)
    (hl : (sp.cps.back? == some 0) = false)
    (hasc : ((sp.cps.toList.drop 1).any (fun x => decide (x ≥ 128)) || (decide (sp.cps.getD 0 0 ≥ 128) && !([60, 62, 61, 94] : List Nat).contains (sp.cps.getD 1 0))) = false) (hz : sp.length ≤ sizeLine)
    (hlen : (padL n x).length ≤ sizeLine) (h : ∀ t' k, Q (.str (padL n x) t') { s with toks := k }) : wpAny (model prog w) A (formatField (.str x t) sp) Q E s := by
  refine PySem.W.KXf.field_meets hne (fun s' => typeIs_str s' x t) F.slot_str_format F.entry_str_format F.args_str_format_2 hz (fun u => ?_) h
  refine .of_wp fun prog w A R s h => ?_
  unfold Builtin.«str.__format__»
  refine wpAny_bind (wpAny_of_eq (a := (Value.str x t, x, Value.str sp u)) rfl ?_)
  refine wpAny_bind (wpAny_of_eq (a := some sp) rfl ?_)
  simp only [hne, hasc, Bool.false_eq_true, if_false]
  refine wpAny_bind (PySem.W.KXf.cut_str ?_)
  simp only [hp]
  have ht : tooLong n = false := decide_eq_false (by have := sizeLine_eq; omega)
  have e : ∀ y : Except String (Option Str), y = .ok (if n ≤ x.length then none else some (padL n x)) → (y >>= fun r => (pure (some r) : Except String (Option (Option Str)))) = .ok (some (if n ≤ x.length then none else some (padL n x))) := fun y e => by rw [e]; rfl
  have e0 := e _ (strField_lit (x := x) (n := n))
  simp only [Option.isNone_none, Bool.true_and, hl, Bool.false_eq_true, if_false, Option.getD_some, ht, show ∀ (f : FormatSpec) (k : FormatSpec → Except String (Option (Option Str))), (Except.ok f >>= k) = k f from fun _ _ => rfl, e0]
  by_cases hx : n ≤ x.length
  · rw [if_pos hx]
    have ex : padL n x = x := by
      unfold padL; rw [show n - x.length = 0 by omega]
      refine TL.ext_tl ?_
      rw [TL.tl_append, tl_blanks, List.replicate_zero, List.append_nil]
    refine wpAny_bind (wpAny_rule ?_)
    exact PySem.W.KXf.ret_same ex.symm fun t k => ⟨_, rfl, h t k⟩
  · rw [if_neg hx]
    exact PySem.W.KXf.ret_text rfl hlen fun t k => ⟨_, rfl, h t k⟩
end
/-! ### the same as rules of the hand layer -/
structure SpR (sp : Str) (n : Nat) : Prop where
  few : n ≤ 100
  par : parseFormatSpec sp.cps.toList "int" 62 = .ok { align := 62, width := some n }
  ne : (sp.length == 0) = false
  la : (sp.cps.back? == some 0) = false
  asc : ((sp.cps.toList.drop 1).any (fun x => decide (x ≥ 128)) || (decide (sp.cps.getD 0 0 ≥ 128) && !([60, 62, 61, 94] : List Nat).contains (sp.cps.getD 1 0))) = false
  sz : sp.length ≤ sizeLine
structure SpL (sp : Str) (n : Nat) : Prop where
  few : n ≤ 100
  par : parseFormatSpec sp.cps.toList "str" 60 = .ok { align := 60, width := some n }
  ne : (sp.length == 0) = false
  la : (sp.cps.back? == some 0) = false
  asc : ((sp.cps.toList.drop 1).any (fun x => decide (x ≥ 128)) || (decide (sp.cps.getD 0 0 ≥ 128) && !([60, 62, 61, 94] : List Nat).contains (sp.cps.getD 1 0))) = false
  sz : sp.length ≤ sizeLine
theorem fs_r3 : SpR ">3" 3 := ⟨by decide, rfl, by decide +kernel, by decide +kernel, by decide +kernel, by decide +kernel⟩
theorem fs_r10 : SpR ">10" 10 := ⟨by decide, rfl, by decide +kernel, by decide +kernel, by decide +kernel, by decide +kernel⟩
theorem fs_r17 : SpR ">17" 17 := ⟨by decide, rfl, by decide +kernel, by decide +kernel, by decide +kernel, by decide +kernel⟩
theorem fs_l5 : SpL "<5" 5 := ⟨by decide, rfl, by decide +kernel, by decide +kernel, by decide +kernel, by decide +kernel⟩
section
variable {X : Cx}
def tFmtI (n : Nat) (te : TE) : TE := fun σ H Q => te σ H fun x H1 => ∃ i, x = .int i ∧ i.natAbs.log2 < 1920 ∧ (intL i).length ≤ 100 ∧ Q (.str (padR n (toString i))) H1
def tFmtS (n : Nat) (te : TE) : TE := fun σ H Q => te σ H fun x H1 => ∃ y : Str, x = .str y ∧ y.length ≤ 100 ∧ Q (.str (padL n y)) H1
theorem pe_fmtI {e spec : Expr} {sp : Str} {n : Nat} {te : TE} {pos : Pos} (F : SpR sp n) (he : PE X e te) (hs : PE X spec (tC (.str sp))) : PE X (.FormattedValue e (-1) (some spec) pos) (tFmtI n te) := by
  refine ⟨fun pins s σ H Q I h => wpAny_FormattedValue_spec (thn (he.run pins s σ H _ I h) fun v s1 hv => ?_)⟩
  obtain ⟨x, H1, I1, r1, i, rfl, hz, hl, q⟩ := hv
  obtain ⟨t, rfl⟩ := r1
  refine thn (hs.run pins s1 σ H1 (fun y H2 => y = V.str sp ∧ Q (.str (padR n (toString i))) H2) I1 ⟨rfl, q⟩) fun r s2 hr => ?_
  obtain ⟨y, H2, I2, r2, rfl, q⟩ := hr
  obtain ⟨u, rfl⟩ := r2
  have hw := padR_len n (Str.ofString (toString i))
  have hi := len_int i
  have := F.few
  exact ⟨sp, u, rfl, fmt_int_short hz F.few F.par F.ne F.la F.asc F.sz (by rw [hw, hi, sizeLine_eq]; omega) fun t' k => ⟨.str _, H2, I2.tok k, ⟨t', rfl⟩, q⟩⟩
theorem pe_fmtS {e spec : Expr} {sp : Str} {n : Nat} {te : TE} {pos : Pos} (F : SpL sp n) (he : PE X e te) (hs : PE X spec (tC (.str sp))) : PE X (.FormattedValue e (-1) (some spec) pos) (tFmtS n te) := by
  refine ⟨fun pins s σ H Q I h => wpAny_FormattedValue_spec (thn (he.run pins s σ H _ I h) fun v s1 hv => ?_)⟩
  obtain ⟨x, H1, I1, r1, z, rfl, hl, q⟩ := hv
  obtain ⟨t, rfl⟩ := r1
  refine thn (hs.run pins s1 σ H1 (fun y H2 => y = V.str sp ∧ Q (.str (padL n z)) H2) I1 ⟨rfl, q⟩) fun r s2 hr => ?_
  obtain ⟨y, H2, I2, r2, rfl, q⟩ := hr
  obtain ⟨u, rfl⟩ := r2
  have hw := padL_len n z
  have := F.few
  exact ⟨sp, u, rfl, fmt_str_room F.few F.par F.ne F.la F.asc F.sz (by rw [hw, sizeLine_eq]; omega) fun t' k => ⟨.str _, H2, I2.tok k, ⟨t', rfl⟩, q⟩⟩
/-- an f-string's parts, one behind the other -/
def tJ (ts : List TE) : TE := fun σ H Q => tJs ts Str.empty σ H fun out H1 => Q (.str out) H1
/-! ### texts -/
abbrev rJoin (K : PySem.W.Frag) : V → List V → Hp → VK → Prop := fun x xs H Q => ∃ a p, ∃ ys : List Str, x = .str a ∧ xs = [.ref p] ∧ (SqL K H p (ys.map V.str) ∨ SqT K H p (ys.map V.str)) ∧ (ys.map (·.length)).sum + ys.length * a.length ≤ 16777216 ∧ Q (.str (Txt.join a ys)) H
abbrev rSplit : V → List V → Hp → VK → Prop := fun x xs H Q => ∃ a b, x = .str a ∧ xs = [.str b] ∧ (b.length == 0) = false ∧ a.length + 2 ≤ sizeLine ∧ rNewStrs (Txt.split a b) H Q
abbrev rRmPre : V → List V → Hp → VK → Prop := fun x xs H Q => ∃ a b, x = .str a ∧ xs = [.str b] ∧ a.length ≤ sizeLine ∧ Q (.str (Txt.removeprefix a b)) H
abbrev rInSign : R2 := fun x y H Q => ∃ (c : Nat) (z : Str), x = .str ⟨#[c]⟩ ∧ y = .str z ∧ Q (.bl (decide (c ∈ z.cps.toList))) H
abbrev rIntS : List V → Hp → VK → Prop := fun xs H Q => ∃ a n, xs = [.str a] ∧ PySem.intText? a = some n ∧ a.length ≤ 640 ∧ Q (.int n) H
def rStrS : List V → Hp → VK → Prop := fun xs H Q => rStrInt xs H Q ∨ ∃ a, xs = [.str a] ∧ Q (.str a) H
theorem call_strS : CallR X (.type "str") rStrS := by
  intro pins s σ H xs us Q I r h
  rcases h with h | h
  · exact call_str_int pins s σ H xs us Q I r h
  · exact SkE.call_str_str pins s σ H xs us Q I r h
theorem pe_rmpre {o e : Expr} {to te : TE} {apos pos : Pos} (ho : PE X o to) (he : PE X e te) (hs : starEach [e] X.env = [(false, eval e X.env)] := by rfl)
    (hbase : attributeBase o "removeprefix" X.env (eval o X.env) = eval o X.env := by rfl) (hline : (apos.endLine == pos.line) = true := by rfl) :
    PE X (.Call (.Attribute o "removeprefix" apos) [e] [] pos) (tM1 rRmPre to te) := pe_m1 F.slot_str_removeprefix F.type_str_removeprefix mt_removeprefix ho he hs hbase hline
/-- " " * n -/
def rMulS : R2 := fun x y H Q => ∃ n : Int, x = .str " " ∧ y = .int n ∧ -1000 ≤ n ∧ n ≤ 1000 ∧ Q (.str (blanks n.toNat)) H
theorem foldl_blank : ∀ n : Nat, (List.replicate n (#[32] : Array Nat)).foldl (· ++ ·) #[] = (List.replicate n 32).toArray := by
  have h : ∀ (n : Nat) (acc : Array Nat), (List.replicate n (#[32] : Array Nat)).foldl (· ++ ·) acc = acc ++ (List.replicate n 32).toArray := by
    intro n
    induction n with
    | zero => intro acc; simp
    | succ n ih => intro acc; rw [List.replicate_succ, List.foldl_cons, ih, List.replicate_succ]; exact Array.toList_inj.mp (by simp)
  intro n; rw [h n #[]]; simp
theorem op_mulS : OpR X (binaryOp .Mult) rMulS := by
  intro pins s σ H x y v u Q I rx ry h
  obtain ⟨n, rfl, rfl, h0, h1, q⟩ := h
  obtain ⟨t, rfl⟩ := rx
  obtain ⟨u, rfl⟩ := ry
  have b1 : ((" " : Str)).length = 1 := rfl
  refine PySem.P.mul_str (by rw [decide_eq_false (by omega), decide_eq_false (by omega)]; rfl) (fun k _ => by
      rw [b1]; intro hgt
      have : (1 : Int) ≤ (2 ^ 63 - 1) / n := (Int.le_ediv_iff_mul_le (by omega)).mpr (by omega)
      omega) (fun _ _ => decide_eq_false (by rw [b1]; have := sizeLine_eq; omega)) ?_
  by_cases k : n < 1
  · rw [if_pos k]
    refine ⟨by decide, .str _, H, I.tok _, ⟨_, rfl⟩, ?_⟩
    have : n.toNat = 0 := by omega
    rw [this] at q
    exact q
  · rw [if_neg k]
    by_cases k1 : n = 1
    · subst k1
      rw [if_pos (by rfl)]
      exact ⟨.str _, H, I, ⟨t, rfl⟩, q⟩
    · rw [if_neg (by rw [b1]; simpa using k1)]
      have e : (⟨(List.replicate n.toNat ((" " : Str)).cps).foldl (· ++ ·) #[]⟩ : Str) = blanks n.toNat := congrArg Str.mk (foldl_blank n.toNat)
      rw [e]
      refine ⟨by show (blanks n.toNat).length ≤ _; rw [len_blanks, sizeLine_eq]; omega, .str _, H, I.tok _, ⟨_, rfl⟩, q⟩
/-- word, *words = a list with one item at least -/
def gStar (K : PySem.W.Frag) (i j : Nat) : TG := fun v σ H Q => ∃ a x xs, v = .ref a ∧ SqL K H a (x :: xs) ∧ ∀ p, H p = none → Q ((σ.set i (some x)).set j (some (.ref p))) (upd H p (.lst xs))
theorem pg_star {i j : Nat} {x y : Str} {p1 p2 p3 pos : Pos} {k : Nat} (hc : X.calm = true) (hN : X.N.Nodup) (hi : X.N[i]? = some x) (hx : Loc X.env.scope x) (hj : X.N[j]? = some y) (hy : Loc X.env.scope y)
    (hf : X.fn x = true ∨ X.env.scope.names.lookup x = some .local := by first | exact .inl rfl | exact .inr rfl | assumption) (hg : X.fn y = true ∨ X.env.scope.names.lookup y = some .local := by first | exact .inl rfl | exact .inr rfl | assumption) :
    PG X (.Tuple [.Name x p1, .Starred (.Name y p2) p3] k pos) (gStar X.K i j) := by
  refine ⟨fun pins s σ H v u Q I r h => ?_⟩
  obtain ⟨a, z, xs, rfl, hq, h⟩ := h
  cases r
  obtain ⟨its, rv, pl, hz⟩ := I.list hq
  obtain ⟨o, m, eo, co, _, qo⟩ := pl
  have hl : s.heap.IsList a its.toArray := ⟨o, eo, co, m, qo⟩
  cases rv with
  | @cons _ v1 _ us rz rr =>
  have hlt : a ≠ s.heap.objs.size := Nat.ne_of_lt (Heap.lt_size eo)
  have hh := I.ok.hd hc
  have hsz : us.length + 1 ≤ sizeLine := by rw [← rr.length]; exact hz
  rw [PyProof.Rows.assign_Tuple]
  refine wpAny_bind (wpAny_standAt ?_)
  unfold unpack
  show wpAny _ _ (holding [Value.ref a] (unpackItems (.ref a) 2 (some 1)) >>= fun items => assignInOrder [assign (.Name x p1) X.env, assign (.Name y p2) X.env] items) _ _ s
  refine wpAny_bind (wpAny_holding ?_)
  unfold unpackItems
  refine wpAny_bind ?_
  unfold notIterableAtAll
  refine wpAny_bind (wpAny_specialOf hl.typeIs slot_list_iter.lookup (wpAny_pure ?_))
  refine wpAny_bind (wpAny_holding (wpAny_pyIter_list hl ?_))
  refine wpAny_bind (wpAny_holding (PySem.W.kun_draw hlt 1 0 _ _ ⟨_, Heap.get?_push_size _ rfl, rfl, rfl⟩ (hl.push _) (by simp) fun h1 hit1 hs1 => ?_))
  have hl1 : h1.IsList a (v1 :: us).toArray := (hl.push _).extBut hs1.extBut hlt
  obtain ⟨oi, hoi, _⟩ := id hit1
  obtain ⟨ol, hol, _⟩ := id hl1
  refine wpAny_bind (wpAny_holding (PySem.W.kun_collect (s := { s with heap := h1 }) (T := "list_iterator") (.inr (.inr (.inl rfl))) (Walks.list (A := X.A.in1) hh s.heap.objs.size a hlt (v1 :: us).toArray) (fun j u st => st.1.typeIs) (k := 1) (by simp) ⟨hit1, hl1⟩ (Heap.lt_size hoi) (Heap.lt_size hol) (fun h2 tk hk => ?_) (by simpa using hsz)))
  show wpAny _ _ (if us.length < 0 then _ else _) _ _ _
  rw [if_neg (by omega)]
  have he : Heap.ExtBut s.heap.objs.size s.heap h2 := fun b o hb e => hk b o hb (hs1.extBut b o hb (Heap.get?_push_of_some _ e))
  have I2 : L2.Inv X pins σ H { s with heap := h2, toks := tk } := I.kept fun b o e => he b o (Nat.ne_of_lt (Heap.lt_size e)) e
  show wpAny _ _ (newList (us.take us.length) >>= fun d => pure ([v1] ++ [d] ++ us.drop us.length)) _ _ _
  rw [List.take_length, List.drop_length]
  refine wpAny_bind (wpAny_newList (wpAny_pure ?_) (by omega))
  show wpAny _ _ (assignInOrder [assign (.Name x p1) X.env, assign (.Name y p2) X.env] [v1, .ref h2.objs.size]) _ _ _
  have hn : H h2.objs.size = none := I2.hok.fresh (Nat.le_refl _)
  have I3 : L2.Inv X pins σ (upd H h2.objs.size (.lst xs)) { s with heap := h2.push { cls := .type "list", data := .seq us.toArray }, toks := tk } :=
    I2.laid (t' := tk) (fun b u e => Heap.get?_push_of_some _ e) (Nat.le_refl _) ⟨by rw [rr.length]; omega, us, 0, rr, Heap.get?_push_size _ rfl⟩
  refine assignInOrder_cons (thn ((pg_name hN hi hx hf).run pins _ σ _ z v1 (fun σ' H' => σ' = σ.set i (some z) ∧ H' = upd H h2.objs.size (.lst xs)) I3 rz ⟨rfl, rfl⟩) fun _ s4 ⟨σ1, H1, I4, e1, e2⟩ => ?_)
  subst e1; subst e2
  exact assignInOrder_cons (thn ((pg_name hN hj hy hg).run pins s4 _ _ (.ref h2.objs.size) (.ref h2.objs.size) Q I4 rfl (h _ hn)) fun _ s5 q => assignInOrder_nil q)
end
end LB

namespace LB
open PySem PySem.Spec PyProof.Rows L2
section
open SeqAt
variable {prog : Program} {w : World} {A : Around} {E : Value → Shared → Prop} {s : Shared}
theorem call_dict_eq_str {l : Addr} {b : Str} {u : Tok} {Q : Value → Shared → Prop} (ty : s.TypeIs (.ref l) "dict") (h : Q .notImplemented s) :
    wpAny (model prog w) A (call (.builtin "dict.__eq__") [.ref l, .str b u]) Q E s := by
  refine wpAny_call_entry PySem.F.slot_dict_eq ty PySem.F.entry_dict_eq ?_ (PySem.F.args_dict_eq_2 _ _)
  show wpAny _ _ (Builtin.Dict.dictSlotArgs "__eq__" ⟨[.ref l, .str b u], []⟩ >>= _) _ _ s
  refine wpAny_bind ?_
  unfold Builtin.Dict.dictSlotArgs
  refine wpAny_bind (wpAny_notOrdered_dict ty ?_)
  show wpAny _ _ (pure (Value.ref l, Value.str b u)) _ _ s
  refine wpAny_pure ?_
  refine wpAny_bind (wpAny_isInstance (T := "str") (typeIs_str s b u) PySem.F.sub_str_dict ?_)
  simp only [Bool.not_false, if_true]
  exact wpAny_bind (wpAny_rule (wpAny_bind (wpAny_pure (wpAny_pure ⟨_, rfl, h⟩))))
open AutoSeq1 (wpAny_loadPart') in
theorem str_eq_dict (b : Str) (u : Tok) (l : Addr) (o : Obj) (es : Array DictEntry) (ep : Nat) (hd : o.data = .dict es ep) :
    Meets (Builtin.«str.__eq__» ⟨[.str b u, .ref l], []⟩) (fun _ R s => s.heap.get? l = some o ∧ R (.ok (.ret .notImplemented)) s) :=
  .of_wp fun prog w A R s h => by
    obtain ⟨cls, dd, data, sl⟩ := o
    simp only at hd
    subst hd
    obtain ⟨hp, g, d, tk, os⟩ := s
    obtain ⟨hl, h⟩ := h
    wp_walk using wpAny_loadPart' hl, wpAny_load hl
    exact ⟨_, rfl, h⟩
theorem rc_dict_str {l : Addr} {o : Obj} {es : Array DictEntry} {ep : Nat} {b : Str} {u : Tok} {Q : Value → Shared → Prop} (ho : s.heap.get? l = some o) (hc : o.cls = .type "dict") (hd : o.data = .dict es ep)
    (hu : A.units < cLine) (h : Q (.bool false) s) : wpAny (model prog w) A (compareOp .Eq (.ref l) (.str b u)) Q E s := by
  refine rc_eq_decline_or (k := false) ⟨o, ho, hc⟩ (typeIs_str s b u) (by decide) PySem.F.sub_str_dict PySem.F.slot_dict_eq PySem.F.slot_str_eq_refl
    (fun _ hq => call_dict_eq_str ⟨o, ho, hc⟩ hq)
    (fun _ hq => call_meets PySem.F.slot_str_eq_refl (typeIs_str s b u) PySem.F.entry_str_eq (PySem.F.args_str_eq_2 _ _) (str_eq_dict b u l o es ep hd) ⟨ho, hq⟩)
    (fun _ hq => wpAny_of_eq (rfl : isSame (.ref l) (.str b u) = pure false) hq) (.inr hu) h
end
/-! ### data compared with a text -/
def eqStr : PyData → Str → Bool
  | .str t, x => decide (t = x)
  | _, _ => false
def rEqX : R2 := fun x y H Q => ∃ (d : PyData) (S : Addr → Prop) (z : Str), DD S H x d ∧ y = .str z ∧ Q (.bl (eqStr d z)) H
theorem op_eqX {X : Cx} (hu : X.A.units < cLine) : OpR X (compareOp .Eq) rEqX := by
  intro pins s σ H x y v u Q I rx ry h
  obtain ⟨d, S, z, hd, rfl, q⟩ := h
  have sc : ∀ {x : V} {d : PyData}, RelV x v → scal x (.str z) = true → decide (x = .str z) = eqStr d z → Q (.bl (eqStr d z)) H → wpAny (model X.prog X.w) X.A (compareOp .Eq v u) (EP X pins σ Q) X.xe s :=
    fun {x d} rx e1 e2 q => op_eq pins s σ H x (.str z) v u Q I rx ry ⟨e1, by rw [e2]; exact q⟩
  cases hd with
  | non => exact sc (d := .none) rx rfl (by simp [eqStr]) q
  | bl b => exact sc (d := .bool b) rx rfl (by simp [eqStr]) q
  | int i => exact sc (d := .int i) rx rfl (by simp [eqStr]) q
  | str t => exact sc (d := .str t) rx rfl (by simp [eqStr]) q
  | tup h1 h2 =>
    cases rx
    obtain ⟨t, rfl⟩ := ry
    obtain ⟨its, rv, ht, _⟩ := I.tuple (.inl (.inl h1))
    exact SeqAt.RcAt.tuple_str z t ht hu _ _ _ _ ⟨.bl false, H, I, rfl, q⟩
  | lst n h1 h2 =>
    cases rx
    obtain ⟨t, rfl⟩ := ry
    obtain ⟨its, rv, hl, _⟩ := I.list (.inl (.inl h1))
    exact SeqAt.RcAt.list_str z t hl.isList hu _ _ _ _ ⟨.bl false, H, I, rfl, q⟩
  | dct n h1 h2 =>
    cases rx
    obtain ⟨t, rfl⟩ := ry
    obtain ⟨_, sy, vs, kv, o, es, ep, ho, hx, hd, _, hp, _⟩ := (show ObjOk X.prog X.w H s.heap _ (.dK _) from I.hok _ _ h1)
    exact rc_dict_str ho hx.1 hd hu ⟨.bl false, H, I, rfl, q⟩
/-! ### t == () -/
def rEqE : R2 := fun x y H Q => ∃ (a b : Addr) (xs : List V), x = .ref a ∧ y = .ref b ∧ H a = some (.tup xs) ∧ H b = some (.tup []) ∧ Q (.bl xs.isEmpty) H
theorem op_eqE {X : Cx} (hu : X.A.units < cLine) : OpR X (compareOp .Eq) rEqE := by
  intro pins s σ H x y v u Q I rx ry h
  obtain ⟨a, b, xs, rfl, rfl, h1, h3, q⟩ := h
  cases rx
  cases ry
  obtain ⟨i1, r1, t1, _⟩ := I.tuple (.inl (.inl h1))
  obtain ⟨i2, r2, t2, _⟩ := I.tuple (.inl (.inl h3))
  cases r2
  have hl : xs.isEmpty = i1.isEmpty := by
    have := r1.length
    cases xs <;> cases i1 <;> simp at this ⊢
  rw [hl] at q
  refine SeqAt.RcAt.tuples (e := fun _ => true) t1 t2 hu (fun j h1 h2 => by simp at h2) _ _ _ _ ⟨.bl i1.isEmpty, H, I, ?_, q⟩
  show Value.bool _ = Value.bool _
  cases i1 <;> simp
/-! ### all of them -/
def rEqA (K : PySem.W.Frag) : R2 := fun x y H Q => rEq x y H Q ∨ rEqX x y H Q ∨ rEqE x y H Q ∨ rEqD K x y H Q
theorem op_eqA {X : Cx} (u : X.A.units + 65 < cLine) : OpR X (compareOp .Eq) (rEqA X.K) := op_eq.or ((op_eqX (by omega)).or ((op_eqE (by omega)).or (op_eqD (by omega))))
def rNeA (K : PySem.W.Frag) : R2 := fun x y H Q => rNe x y H Q ∨ rNeD K x y H Q
theorem op_neA {X : Cx} (u : X.A.units + 65 < cLine) : OpR X (compareOp .NotEq) (rNeA X.K) := op_ne.or (op_neD (by omega))
end LB

namespace LB
open PySem PySem.Spec PyProof.Rows L2
/-- H1 is H with a new object o at p -/
structure New (H H1 : Hp) (p : Addr) (o : HO) : Prop where
  no : H p = none
  at_ : H1 p = some o
  off : ∀ b, b ≠ p → H1 b = H b
theorem New.mk' {H : Hp} {p : Addr} {o : HO} (h : H p = none) : New H (upd H p o) p o := ⟨h, upd_same, fun _ hb => upd_ne hb⟩
theorem New.keep {S : Addr → Prop} {H H1 : Hp} {p : Addr} {o : HO} (n : New H H1 p o) : Keep S H H1 :=
  ⟨fun b _ _ e => by rw [n.off b (ne_of_none e n.no)]; exact e, fun b _ e => by rw [n.off b (ne_of_none e n.no)]; exact e⟩
theorem New.get {H H1 : Hp} {p b : Addr} {o u : HO} (n : New H H1 p o) (e : H b = some u) : H1 b = some u := by rw [n.off b (ne_of_none e n.no)]; exact e
theorem New.ne {H H1 : Hp} {p b : Addr} {o u : HO} (n : New H H1 p o) (e : H b = some u) : b ≠ p := ne_of_none e n.no
/-- H1 is H with the list at p changed -/
theorem upd_get {H : Hp} {p b : Addr} {o u : HO} (n : b ≠ p) (e : H b = some u) : upd H p o b = some u := by rw [upd_ne n]; exact e
def kTupl (Q : VK) : List V → Hp → Prop := fun xs H1 => xs.length ≤ sizeLine ∧ ∀ p, H1 p = none → Q (.ref p) (upd H1 p (.tup xs))
def kLst (Q : VK) : List V → Hp → Prop := fun xs H1 => xs.length ≤ sizeLine ∧ ∀ p, H1 p = none → Q (.ref p) (upd H1 p (.lst xs))
/-! ### readings, step by step -/
section
variable {K : PySem.W.Frag} {t u : TS} {D : Ends} {σ : LB.St} {H : Hp} {Q : VK} {te ta tb : TE} {g : TG} {tr : TA} {r : R2} {Qb : Bool → Hp → Prop} {c : TT} {QA : List V → Hp → Prop}
theorem w_seq (h : t { D with nx := u D } σ H) : tSeq t u D σ H := h
theorem w_asg (h : te σ H fun x H1 => g x σ H1 D.nx) : tAsg te g D σ H := h
theorem w_drop (h : te σ H fun _ H1 => D.nx σ H1) : tDrop te D σ H := h
theorem w_ret (h : te σ H D.rt) : tRet te D σ H := h
theorem w_next (h : D.nx σ H) : tNext D σ H := h
theorem w_ifs (h : c σ H fun b H1 => if b = true then t D σ H1 else u D σ H1) : tIfS c t u D σ H := h
theorem w_name {i : Nat} {v : V} {Qn : LB.St → Hp → Prop} (h : Qn (σ.set i (some v)) H) : gName i v σ H Qn := h
theorem w_sub {to ti : TE} {v : V} {ts : TSet} {Qn : LB.St → Hp → Prop} (h : to σ H fun o H1 => ti σ H1 fun i H2 => ts o i v H2 fun H3 => Qn σ H3) : gSub to ti ts v σ H Qn := h
theorem w_par {i j : Nat} (h : tr σ H fun vs H1 => ∃ v w, vs = [v, w] ∧ D.nx ((σ.set i (some v)).set j (some w)) H1) : tPar i j tr D σ H := h
theorem w_var {i : Nat} {v : V} (e : σ[i]? = some (some v)) (h : Q v H) : tVar i σ H Q := ⟨v, e, h⟩
theorem w_c {v : V} (h : Q v H) : tC v σ H Q := h
theorem w_op (h : ta σ H fun x H1 => tb σ H1 fun y H2 => r x y H2 Q) : tOp r ta tb σ H Q := h
theorem w_un {f : V → Hp → VK → Prop} (h : ta σ H fun x H1 => f x H1 Q) : tUn f ta σ H Q := h
theorem w_test (h : te σ H fun x H' => ∃ k, x = .bl k ∧ Qb k H') : tTest te σ H Qb := h
theorem w_tb (h : te σ H fun x H' => ∃ k, x = .bl k ∧ Qb k H') : tB te σ H Qb := h
theorem w_nil (h : QA [] H) : tNil σ H QA := h
theorem w_cons (h : ta σ H fun x H1 => tr σ H1 fun xs H2 => QA (x :: xs) H2) : tCons ta tr σ H QA := h
theorem w_cb {f : List V → Hp → VK → Prop} (h : tr σ H fun vs H1 => f vs H1 Q) : tCB f tr σ H Q := h
theorem w_call {sp : Sp} {E : XK} (h : tr σ H fun vs H1 => sp vs H1 Q E) : tCall sp [] E tr σ H Q := by
  show tr σ H fun vs H1 => sp (vs ++ []) H1 Q E
  simp only [List.append_nil]
  exact h
theorem w_not {tt : TT} (h : tt σ H fun c H1 => Qb (!c) H1) : tNot tt σ H Qb := h
theorem w_and {tt uu : TT} (h : tt σ H fun c H1 => if c = true then uu σ H1 Qb else Qb false H1) : tAnd tt uu σ H Qb := h
theorem w_or {tt uu : TT} (h : tt σ H fun c H1 => if c = true then Qb true H1 else uu σ H1 Qb) : tOr tt uu σ H Qb := h
theorem w_andV (h : ta σ H fun x H1 => ∃ c, x = .bl c ∧ if c = true then tb σ H1 Q else Q (.bl false) H1) : tAndV ta tb σ H Q := h
theorem w_orV (h : ta σ H fun x H1 => ∃ c, x = .bl c ∧ if c = true then Q (.bl true) H1 else tb σ H1 Q) : tOrV ta tb σ H Q := h
theorem w_notV (h : ta σ H fun x H1 => ∃ c, x = .bl c ∧ Q (.bl (!c)) H1) : tNotV ta σ H Q := h
theorem w_ife {tt : TT} (h : tt σ H fun c H1 => if c = true then ta σ H1 Q else tb σ H1 Q) : tIf tt ta tb σ H Q := h
theorem w_chain {r' : R2} {tc : TE} (h : ta σ H fun x H1 => tb σ H1 fun y H2 => r x y H2 fun z H3 => ∃ k, z = .bl k ∧ (if k = true then tc σ H3 fun w' H4 => r' y w' H4 Q else Q (.bl false) H3)) : tChain r r' ta tb tc σ H Q := h
theorem w_bm {T : String} {f : V → List V → Hp → VK → Prop} (h : ta σ H fun x H1 => tyV K T x H1 ∧ tr σ H1 fun xs H2 => f x xs H2 Q) : tBM K T f ta tr σ H Q := h
theorem w_sl {f : V → Option Int → Option Int → Hp → VK → Prop} {tl th : TO} (h : te σ H fun x H1 => tl σ H1 fun l H2 => th σ H2 fun u H3 => f x l u H3 Q) : tSl f te tl th σ H Q := h
theorem w_part {Qo : Option Int → Hp → Prop} (h : te σ H fun x H1 => ∃ i, x = .int i ∧ Qo (some i) H1) : tPart te σ H Qo := h
theorem w_nopart {Qo : Option Int → Hp → Prop} (h : Qo none H) : tNoPart σ H Qo := h
theorem w_ex {p : V} {k : Bool} {R : Bool → Prop} (h : R k) : ∃ c, V.bl k = .bl c ∧ R c := ⟨k, rfl, h⟩
theorem w_exb {k : Bool} {R : Bool → Prop} (h : R k) : ∃ c, V.bl k = .bl c ∧ R c := ⟨k, rfl, h⟩
theorem w_exi {k : Int} {R : Int → Prop} (h : R k) : ∃ c, V.int k = .int c ∧ R c := ⟨k, rfl, h⟩
theorem w_ex2 {v w : V} {R : V → V → Prop} (h : R v w) : ∃ a b, [v, w] = [a, b] ∧ R a b := ⟨v, w, rfl, h⟩
theorem w_tup (h : tr σ H (kTupl Q)) : tTup tr σ H Q := h
theorem w_lst (h : tr σ H (kLst Q)) : tLst tr σ H Q := h
theorem k_tup {xs : List V} (hn : xs.length ≤ sizeLine) (h : ∀ p H1, New H H1 p (.tup xs) → Q (.ref p) H1) : kTupl Q xs H := ⟨hn, fun p hp => h p _ (.mk' hp)⟩
theorem k_lst {xs : List V} (hn : xs.length ≤ sizeLine) (h : ∀ p H1, New H H1 p (.lst xs) → Q (.ref p) H1) : kLst Q xs H := ⟨hn, fun p hp => h p _ (.mk' hp)⟩
theorem w_iteT {A B : Prop} {c : Bool} (e : c = true) (h : A) : if c = true then A else B := by rw [if_pos e]; exact h
theorem w_iteF {A B : Prop} {c : Bool} (e : c = false) (h : B) : if c = true then A else B := by rw [e]; exact h
theorem w_ite {A B : Prop} {c : Prop} [Decidable c] (h1 : c → A) (h2 : ¬ c → B) : if decide c = true then A else B := by
  by_cases h : c
  · rw [if_pos (decide_eq_true h)]; exact h1 h
  · rw [decide_eq_false h]; exact h2 h
theorem w_iteb {A B : Prop} {c : Bool} (h1 : c = true → A) (h2 : c = false → B) : if c = true then A else B := by
  cases c with
  | true => exact h1 rfl
  | false => exact h2 rfl
/-! operators -/
variable {i j : Int}
theorem o_add (h : Q (.int (i + j)) H) : rAddA K (.int i) (.int j) H Q := .inl ⟨i, j, rfl, rfl, h⟩
theorem o_addI (h : Q (.int (i + j)) H) : rAddI (.int i) (.int j) H Q := ⟨i, j, rfl, rfl, h⟩
theorem o_adds {x y : Str} (e : x.length + y.length ≤ sizeLine) (h : Q (.str (x ++ y)) H) : rAddA K (.str x) (.str y) H Q := .inr (.inl ⟨x, y, rfl, rfl, e, h⟩)
theorem o_addl {a b : Addr} {xs ys : List V} (e1 : H a = some (.lst xs)) (e2 : H b = some (.lst ys)) (e : xs.length + ys.length ≤ sizeLine) (h : ∀ p H1, New H H1 p (.lst (xs ++ ys)) → Q (.ref p) H1) : rAddA K (.ref a) (.ref b) H Q :=
  .inr (.inr (.inl ⟨a, b, xs, ys, rfl, rfl, e1, e2, e, fun p hp => h p _ (.mk' hp)⟩))
theorem o_sub (h : Q (.int (i - j)) H) : rSubI (.int i) (.int j) H Q := ⟨i, j, rfl, rfl, h⟩
theorem o_mul (e : -(2 ^ 64) < i ∧ i < 2 ^ 64) (h : Q (.int (i * j)) H) : rMulA K (.int i) (.int j) H Q := .inl ⟨i, j, rfl, rfl, .inl e, h⟩
theorem o_mulR (e : -(2 ^ 64) < j ∧ j < 2 ^ 64) (h : Q (.int (i * j)) H) : rMulA K (.int i) (.int j) H Q := .inl ⟨i, j, rfl, rfl, .inr e, h⟩
theorem o_mod (e : j ≠ 0) (h : Q (.int (i.fmod j)) H) : rModI (.int i) (.int j) H Q := ⟨i, j, rfl, rfl, e, h⟩
theorem o_fdv (e : j ≠ 0) (e2 : j.natAbs < 1073741824) (h : Q (.int (i.fdiv j)) H) : rFdvI (.int i) (.int j) H Q := ⟨i, j, rfl, rfl, ⟨e, e2⟩, h⟩
theorem o_pow (e : CPowW i j) (h : Q (.int (i ^ j.toNat)) H) : rPowI (.int i) (.int j) H Q := ⟨i, j, rfl, rfl, e, h⟩
theorem o_neg (h : Q (.int (-i)) H) : rNegI (.int i) H Q := ⟨i, rfl, h⟩
theorem o_lt (h : Q (.bl (decide (i < j))) H) : rLtI (.int i) (.int j) H Q := ⟨i, j, rfl, rfl, h⟩
theorem o_le (h : Q (.bl (decide (i ≤ j))) H) : rLeI (.int i) (.int j) H Q := ⟨i, j, rfl, rfl, h⟩
theorem o_gt (h : Q (.bl (decide (j < i))) H) : rGtI (.int i) (.int j) H Q := ⟨i, j, rfl, rfl, h⟩
theorem o_ge (h : Q (.bl (decide (j ≤ i))) H) : rGeI (.int i) (.int j) H Q := ⟨i, j, rfl, rfl, h⟩
theorem o_eqs {x y : V} (e : scal x y = true) (h : Q (.bl (decide (x = y))) H) : rEqA K x y H Q := .inl ⟨e, h⟩
theorem o_nes {x y : V} (e : scal x y = true) (h : Q (.bl (!decide (x = y))) H) : rNeA K x y H Q := .inl ⟨e, h⟩
theorem o_ixl {a : Addr} {xs : List V} {v : V} {n : Nat} (e1 : H a = some (.lst xs)) (e2 : xs[n]? = some v) (h : Q v H) : rIx K (.ref a) (.int n) H Q :=
  .inl ⟨a, xs, n, v, rfl, rfl, .inl (.inl e1), atI_nat e2, h⟩
theorem o_ixt {a : Addr} {xs : List V} {v : V} {n : Nat} (e1 : H a = some (.tup xs)) (e2 : xs[n]? = some v) (h : Q v H) : rIx K (.ref a) (.int n) H Q :=
  .inr (.inl ⟨a, xs, n, v, rfl, rfl, .inl (.inl e1), atI_nat e2, h⟩)
theorem o_setl {a : Addr} {xs : List V} {v : V} {n : Nat} {Qh : Hp → Prop} (e1 : H a = some (.lst xs)) (e2 : n < xs.length) (h : Qh (upd H a (.lst (xs.set n v)))) : rSetL (.ref a) (.int n) v H Qh :=
  ⟨a, xs, n, n, rfl, rfl, e1, by unfold ixN; rw [if_pos (Int.natCast_nonneg n), if_pos (by omega)]; simp, h⟩
theorem o_ixL {a : Addr} {xs : List V} {v : V} {z : Int} (e1 : H a = some (.lst xs)) (e0 : 0 ≤ z) (e2 : xs[z.toNat]? = some v) (h : Q v H) : rIx K (.ref a) (.int z) H Q := by
  obtain ⟨n, rfl⟩ := Int.eq_ofNat_of_zero_le e0
  exact o_ixl e1 e2 h
theorem o_ixT {a : Addr} {xs : List V} {v : V} {z : Int} (e1 : H a = some (.tup xs)) (e0 : 0 ≤ z) (e2 : xs[z.toNat]? = some v) (h : Q v H) : rIx K (.ref a) (.int z) H Q := by
  obtain ⟨n, rfl⟩ := Int.eq_ofNat_of_zero_le e0
  exact o_ixt e1 e2 h
theorem o_setL {a : Addr} {xs : List V} {v : V} {z : Int} {Qh : Hp → Prop} (e1 : H a = some (.lst xs)) (e0 : 0 ≤ z) (e2 : z.toNat < xs.length) (h : Qh (upd H a (.lst (xs.set z.toNat v)))) : rSetL (.ref a) (.int z) v H Qh := by
  obtain ⟨n, rfl⟩ := Int.eq_ofNat_of_zero_le e0
  exact o_setl e1 e2 h
theorem o_len {x : V} {n : Nat} (e : LenV K x H n) (h : Q (.int n) H) : rLen K [x] H Q := ⟨x, n, rfl, e, h⟩
theorem lenl {a : Addr} {xs : List V} (e : H a = some (.lst xs)) : LenV K (.ref a) H xs.length := .inl ⟨xs, .inl (.inl e), rfl⟩
theorem lent {a : Addr} {xs : List V} (e : H a = some (.tup xs)) : LenV K (.ref a) H xs.length := .inr ⟨xs, .inl (.inl e), rfl⟩
theorem o_abs (h : Q (.int (if i < 0 then -i else i)) H) : rAbs [.int i] H Q := ⟨i, rfl, h⟩
theorem o_int1b {b : Bool} (h : Q (.int (if b then 1 else 0)) H) : rInt1 [.bl b] H Q := .inr ⟨b, rfl, h⟩
end
/-! ### the pot -/
/-- the pot at p, good for n draws more -/
def Pot (H : Hp) (p : Addr) (n : Nat) : Prop := ∃ a b c : Int, H p = some (.lst [.int a, .int b, .int c]) ∧ 0 ≤ a ∧ (0 ≤ b ∧ b < 2305843009213693921) ∧ 0 ≤ c ∧ c + n ≤ 8388608
def spDraw : Sp := fun vs H Q _ => ∃ (p : Addr) (m : Int) (n : Nat), vs = [.ref p, .int m] ∧ Pot H p (n + 1) ∧ 1 ≤ m ∧ m < 1073741824 ∧
  ∀ (H' : Hp) (k : Int), Keep (At p) H H' → Pot H' p n → 0 ≤ k → k < m → Q (.int k) H'
end LB

namespace LB
open PySem PySem.Spec PyProof.Rows L2
/-! ### more steps -/
/-- H1 is H with the object at p changed into o -/
structure Put (H H1 : Hp) (p : Addr) (o : HO) : Prop where
  at_ : H1 p = some o
  off : ∀ b, b ≠ p → H1 b = H b
theorem Put.mk' {H : Hp} {p : Addr} {o : HO} : Put H (upd H p o) p o := ⟨upd_same, fun _ hb => upd_ne hb⟩
theorem Put.get {H H1 : Hp} {p b : Addr} {o u : HO} (n : Put H H1 p o) (h : b ≠ p) (e : H b = some u) : H1 b = some u := by rw [n.off b h]; exact e
theorem Put.keep {S : Addr → Prop} {H H1 : Hp} {p : Addr} {o : HO} {xs : List V} (n : Put H H1 p o) (hs : S p) (h : H p = some (.lst xs)) : Keep S H H1 :=
  ⟨fun b _ nb e => n.get (fun z => nb (by rw [z]; exact hs)) e, fun b _ e => n.get (fun z => by rw [z, h] at e; cases e) e⟩
theorem Put.keep0 {S : Addr → Prop} {H0 H H1 : Hp} {p : Addr} {o : HO} {xs : List V} (n : Put H H1 p o) (k : Keep S H0 H) (h0 : H0 p = none) (h : H p = some (.lst xs)) : Keep S H0 H1 :=
  ⟨fun b _ nb e => n.get (ne_of_none e h0) (k.all b _ nb e), fun b _ e => n.get (ne_of_none e h0) (k.tup b _ e)⟩
def kindB : PyData → Nat
  | .none => 0 | .bool _ => 1 | .int _ => 2 | .str _ => 3 | .list _ => 4 | .tuple _ => 5 | .dict _ => 6
def tyN : PyData → String
  | .none => "NoneType" | .bool _ => "bool" | .int _ => "int" | .str _ => "str" | .list _ => "list" | .tuple _ => "tuple" | .dict _ => "dict"
theorem DD.ty {S : Addr → Prop} {K : PySem.W.Frag} {H : Hp} {x : V} {d : PyData} (h : DD S H x d) : TyX K H x (.type (tyN d)) := by
  cases h with
  | non => exact .base .non
  | bl b => exact .base (.bl b)
  | int i => exact .base (.int i)
  | str x => exact .base (.str x)
  | tup e _ => exact .base (.tup e)
  | lst _ e _ => exact .base (.lst e)
  | dct _ e _ => exact .base (.dK e)
/-- isinstance(x, T) for the T that the laws ask -/
def isTs (t T : String) : Bool := t == T || (t == "bool" && T == "int")
def isT (T : String) (d : PyData) : Bool := isTs (tyN d) T
theorem kit_tab : ∀ t ∈ ["NoneType", "bool", "int", "str", "list", "tuple", "dict"], ∀ T ∈ ["tuple", "str", "int", "bool", "list"], kitB t T = some (isTs t T) := by decide +kernel
theorem tyN_mem (d : PyData) : tyN d ∈ ["NoneType", "bool", "int", "str", "list", "tuple", "dict"] := by cases d <;> simp [tyN]
theorem kit_isT {T : String} (d : PyData) (hT : T = "tuple" ∨ T = "str" ∨ T = "int" ∨ T = "bool" ∨ T = "list") : kitB (tyN d) T = some (isT T d) :=
  kit_tab _ (tyN_mem d) T (by rcases hT with rfl | rfl | rfl | rfl | rfl <;> simp)
def kLR (Q : VK) : Int → Int → Hp → Prop := fun a b H1 => RgOk a b ∧ ∀ q, H1 q = none → Q (.ref q) (upd H1 q (.lst (rgV a b)))
section
variable {K : PySem.W.Frag} {D : Ends} {σ : LB.St} {H : Hp} {Q : VK} {te ta tb : TE} {tr : TA} {S : Addr → Prop} {i j : Int}
theorem w_par3 {a b c : Nat} (h : tr σ H fun vs H1 => ∃ u v w, vs = [u, v, w] ∧ D.nx (((σ.set a (some u)).set b (some v)).set c (some w)) H1) : tPar3 a b c tr D σ H := h
theorem w_ex3 {u v w : V} {R : V → V → V → Prop} (h : R u v w) : ∃ a b c, [u, v, w] = [a, b, c] ∧ R a b c := ⟨u, v, w, rfl, h⟩
theorem w_lstrg {tr : LB.St → Hp → (Int → Int → Hp → Prop) → Prop} (h : tr σ H (kLR Q)) : tLstRg tr σ H Q := h
theorem k_lr {a b : Int} (e : RgOk a b) (h : ∀ q H1, New H H1 q (.lst (rgV a b)) → Q (.ref q) H1) : kLR Q a b H := ⟨e, fun q hq => h q _ (.mk' hq)⟩
theorem w_rg2 {R : Int → Int → Hp → Prop} (h : ta σ H fun x H1 => tb σ H1 fun y H2 => ∃ i j, x = .int i ∧ y = .int j ∧ R i j H2) : tRg2 ta tb σ H R := h
theorem w_rg1 {R : Int → Int → Hp → Prop} (h : ta σ H fun x H1 => ∃ n, x = .int n ∧ R 0 n H1) : tRg1 ta σ H R := h
theorem w_exij {R : Int → Int → Prop} (h : R i j) : ∃ a b, V.int i = .int a ∧ V.int j = .int b ∧ R a b := ⟨i, j, rfl, rfl, h⟩
theorem w_tyl {a : Addr} {xs : List V} {P : Prop} (h : H a = some (.lst xs)) (q : P) : tyV K "list" (.ref a) H ∧ P := ⟨.inl ⟨rfl, _, .inl (.inl h)⟩, q⟩
theorem o_isi {x : V} {d : PyData} {T : String} (h : DD S H x d) (hT : T = "tuple" ∨ T = "str" ∨ T = "int" ∨ T = "bool" ∨ T = "list") (q : Q (.bl (isT T d)) H) : rIsi K [x, .ty T] H Q :=
  ⟨x, .ty T, _, _, _, rfl, .ty T, DD.ty h, kit_ty (kit_isT d hT), q⟩
theorem o_isiX {x : V} {d : PyData} {T : String} (h : DD S H x d) (q : Q (.bl (isT T d)) H) (hT : T = "tuple" ∨ T = "str" ∨ T = "int" ∨ T = "bool" ∨ T = "list" := by decide) : rIsi K [x, .ty T] H Q := o_isi h hT q
theorem o_max2 (h : Q (.int (if j > i then j else i)) H) : rMax2 [.int i, .int j] H Q := ⟨i, j, rfl, h⟩
theorem o_min2 (h : Q (.int (if j < i then j else i)) H) : rMin2 [.int i, .int j] H Q := ⟨i, j, rfl, h⟩
theorem o_lenl {a : Addr} {xs : List V} (e : H a = some (.lst xs)) (h : Q (.int xs.length) H) : rLen K [.ref a] H Q := o_len (lenl e) h
theorem o_lent {a : Addr} {xs : List V} (e : H a = some (.tup xs)) (h : Q (.int xs.length) H) : rLen K [.ref a] H Q := o_len (lent e) h
theorem o_lens {a : Addr} {xs : List V} (e : SqL K H a xs) (h : Q (.int xs.length) H) : rLen K [.ref a] H Q := o_len (.inl ⟨xs, e, rfl⟩) h
theorem o_ixS {a : Addr} {xs : List V} {v : V} {z : Int} (e1 : SqL K H a xs) (e0 : 0 ≤ z) (e2 : xs[z.toNat]? = some v) (h : Q v H) : rIx K (.ref a) (.int z) H Q := by
  obtain ⟨n, rfl⟩ := Int.eq_ofNat_of_zero_le e0
  exact .inl ⟨a, xs, n, v, rfl, rfl, e1, atI_nat e2, h⟩
theorem o_app {a : Addr} {xs : List V} {y : V} (e : H a = some (.lst xs)) (z : xs.length < sizeLine) (h : ∀ H1, Put H H1 a (.lst (xs ++ [y])) → Q .non H1) : rAppend (.ref a) [y] H Q := ⟨a, xs, y, rfl, rfl, e, z, h _ .mk'⟩
theorem o_addL {a b : Addr} {xs ys : List V} (e1 : H a = some (.lst xs)) (e2 : H b = some (.lst ys)) (e : xs.length + ys.length ≤ sizeLine) (h : ∀ p H1, New H H1 p (.lst (xs ++ ys)) → Q (.ref p) H1) : rAddA K (.ref a) (.ref b) H Q := o_addl e1 e2 e h
theorem o_listof {a : Addr} {xs : List V} (e : SqL K H a xs ∨ SqT K H a xs) (h : ∀ p H1, New H H1 p (.lst xs) → Q (.ref p) H1) : rListOf K [.ref a] H Q := ⟨a, xs, rfl, e, fun p hp => h p _ (.mk' hp)⟩
theorem o_tupof {a : Addr} {xs : List V} (e : H a = some (.lst xs)) (h : ∀ p H1, New H H1 p (.tup xs) → Q (.ref p) H1) : rTupOf K [.ref a] H Q := ⟨a, xs, rfl, .inl ⟨.inl (.inl e), fun p hp => h p _ (.mk' hp)⟩⟩
/-- pop(i) -/
abbrev rPopA : V → List V → Hp → VK → Prop := rPopAt
theorem seqIx {n : Nat} {z : Int} (h0 : 0 ≤ z) (h1 : z < n) : seqIndex? z n = some z.toNat := seqIndex_of h0 h1
theorem o_popat {a : Addr} {xs : List V} {z : Int} {y : V} (e : H a = some (.lst xs)) (h0 : 0 ≤ z) (h1 : z < xs.length) (h2 : xs.length < 2 ^ 62) (ey : xs[z.toNat]? = some y)
    (h : ∀ H1, Put H H1 a (.lst (xs.eraseIdx z.toNat)) → Q y H1) : rPopA (.ref a) [.int z] H Q :=
  ⟨a, xs, z, z.toNat, y, rfl, rfl, e, by omega, by omega, seqIx h0 h1, ey, h _ .mk'⟩
end
theorem Pot.le {H : Hp} {p : Addr} {n m : Nat} (h : Pot H p n) (l : m ≤ n) : Pot H p m := by
  obtain ⟨a, b, c, e, h1, h2, h3, h4⟩ := h
  exact ⟨a, b, c, e, h1, h2, h3, by omega⟩
theorem Pot.some {H : Hp} {p : Addr} {n : Nat} (h : Pot H p n) : ∃ xs, H p = some (.lst xs) := let ⟨_, _, _, e, _⟩ := h; ⟨_, e⟩
theorem Pot.new {H H1 : Hp} {p q : Addr} {o : HO} {n : Nat} (h : Pot H p n) (k : New H H1 q o) : Pot H1 p n := by
  obtain ⟨a, b, c, e, r⟩ := h
  exact ⟨a, b, c, k.get e, r⟩
theorem Pot.put {H H1 : Hp} {p q : Addr} {o : HO} {n : Nat} (h : Pot H p n) (k : Put H H1 q o) (ne : p ≠ q) : Pot H1 p n := by
  obtain ⟨a, b, c, e, r⟩ := h
  exact ⟨a, b, c, k.get ne e, r⟩
theorem Pot.ne {H : Hp} {p q : Addr} {n : Nat} (h : Pot H p n) (e : H q = none) : p ≠ q := by
  obtain ⟨xs, hx⟩ := h.some
  exact ne_of_none hx e
theorem o_draw {H : Hp} {Q : VK} {E : XK} {p : Addr} {m : Int} {N : Nat} (pt : Pot H p N) (hN : 1 ≤ N) (h1 : 1 ≤ m) (h2 : m < 1073741824)
    (q : ∀ (H' : Hp) (k : Int), Keep (At p) H H' → Pot H' p (N - 1) → 0 ≤ k → k < m → Q (.int k) H') : spDraw [.ref p, .int m] H Q E :=
  ⟨p, m, N - 1, rfl, pt.le (by omega), h1, h2, q⟩
theorem spDraw_arity {vs : List V} {H : Hp} {Q : VK} {E : XK} (h : spDraw vs H Q E) : vs.length = 2 := by
  obtain ⟨_, _, _, rfl, _⟩ := h
  rfl
/-- any(pot, items): one of them -/
def spAny (K : PySem.W.Frag) : Sp := fun vs H Q _ => ∃ (p a : Addr) (xs : List V) (N : Nat), vs = [.ref p, .ref a] ∧ Pot H p N ∧ 1 ≤ N ∧ a ≠ p ∧ (H a = some (.lst xs) ∨ H a = some (.tup xs)) ∧ 1 ≤ xs.length ∧ xs.length < 1073741824 ∧
  ∀ (H' : Hp) (i : Nat) (v : V), xs[i]? = some v → Keep (At p) H H' → Pot H' p (N - 1) → Q v H'
theorem spAny_arity {K : PySem.W.Frag} {vs : List V} {H : Hp} {Q : VK} {E : XK} (h : spAny K vs H Q E) : vs.length = 2 := by
  obtain ⟨_, _, _, _, rfl, _⟩ := h
  rfl
theorem o_any {K : PySem.W.Frag} {H : Hp} {Q : VK} {E : XK} {p a : Addr} {xs : List V} {N : Nat} (pt : Pot H p N) (hN : 1 ≤ N) (na : a ≠ p) (e : H a = some (.lst xs) ∨ H a = some (.tup xs)) (h1 : 1 ≤ xs.length) (h2 : xs.length < 1073741824)
    (q : ∀ (H' : Hp) (i : Nat) (v : V), xs[i]? = some v → Keep (At p) H H' → Pot H' p (N - 1) → Q v H') : spAny K [.ref p, .ref a] H Q E := ⟨p, a, xs, N, rfl, pt, hN, na, e, h1, h2, q⟩
/-- mixed(pot, items): a new list of them in some sequence -/
def spMixed (K : PySem.W.Frag) : Sp := fun vs H Q _ => ∃ (p a : Addr) (xs : List V) (ds : List PyData) (N : Nat), vs = [.ref p, .ref a] ∧ Pot H p N ∧ xs.length ≤ N ∧ a ≠ p ∧ (H a = some (.lst xs) ∨ H a = some (.tup xs)) ∧ xs.length ≤ 1000 ∧
  DDs All H xs ds ∧ (∀ d ∈ ds, d.canLay0 = true ∧ d.depth ≤ 60) ∧
  ∀ (H' : Hp) (q : Addr) (ys : List V), xs.Perm ys → H q = none → H' q = some (.lst ys) → Keep (At p) H H' → Pot H' p (N - xs.length) → Q (.ref q) H'
theorem spMixed_arity {K : PySem.W.Frag} {vs : List V} {H : Hp} {Q : VK} {E : XK} (h : spMixed K vs H Q E) : vs.length = 2 := by
  obtain ⟨_, _, _, _, _, rfl, _⟩ := h
  rfl
/-- pot(script, k) -/
def spPot (K : PySem.W.Frag) : Sp := fun vs H Q _ => ∃ (a : Addr) (k : Int) (ns : List Int), vs = [.ref a, .int k] ∧ SqL K H a (ns.map V.int) ∧ 0 ≤ k ∧ k < 64 ∧ ns.length ≤ 63 ∧
  ∀ (H' : Hp) (p : Addr), H p = none → Keep (fun _ => False) H H' → Pot H' p 8388608 → Q (.ref p) H'
theorem spPot_arity {K : PySem.W.Frag} {vs : List V} {H : Hp} {Q : VK} {E : XK} (h : spPot K vs H Q E) : vs.length = 2 := by
  obtain ⟨_, _, _, rfl, _⟩ := h
  rfl
end LB

open PySem PySem.Spec PyProof.Rows L2 LB
/-! the tactic: one step of a reading; many -/
local macro_rules | `(tactic| walk_at "w1_1") => `(tactic| first
  | with_reducible refine w_seq ?_ | with_reducible refine w_asg ?_ | with_reducible refine w_drop ?_ | with_reducible refine w_ret ?_ | with_reducible refine w_next ?_
  | with_reducible refine w_ifs ?_ | with_reducible refine w_forR1 ?_ | with_reducible refine w_forR2 ?_ | with_reducible refine w_forL ?_ | with_reducible refine w_forT ?_ | with_reducible refine w_name ?_ | with_reducible refine w_sub ?_ | with_reducible refine w_par ?_
  | with_reducible refine w_var (by with_unfolding_all rfl) ?_ | with_reducible refine w_c ?_ | with_reducible refine w_op ?_ | with_reducible refine w_un ?_
  | with_reducible refine w_test ?_ | with_reducible refine w_tb ?_ | with_reducible refine w_nil ?_ | with_reducible refine w_cons ?_ | with_reducible refine w_cb ?_ | with_reducible refine w_call ?_
  | with_reducible refine w_not ?_ | with_reducible refine w_and ?_ | with_reducible refine w_or ?_ | with_reducible refine w_andV ?_ | with_reducible refine w_orV ?_ | with_reducible refine w_notV ?_
  | with_reducible refine w_ife ?_ | with_reducible refine w_chain ?_ | with_reducible refine w_bm ?_ | with_reducible refine w_sl ?_ | with_reducible refine w_part ?_ | with_reducible refine w_nopart ?_
  | with_reducible refine w_exb ?_ | with_reducible refine w_exi ?_ | with_reducible refine w_ex2 ?_ | with_reducible refine w_ex3 ?_ | with_reducible refine w_lstrg ?_ | with_reducible refine w_rg2 ?_ | with_reducible refine w_rg1 ?_ | with_reducible refine w_exij ?_ | with_reducible refine w_tup ?_ | with_reducible refine w_lst ?_
  | with_reducible refine o_add ?_ | with_reducible refine o_sub ?_ | with_reducible refine o_neg ?_ | with_reducible refine o_lt ?_ | with_reducible refine o_le ?_ | with_reducible refine o_gt ?_ | with_reducible refine o_ge ?_
  | with_reducible refine o_ixL (by assumption) (by decide) (by with_unfolding_all rfl) ?_ | with_reducible refine o_ixT (by assumption) (by decide) (by with_unfolding_all rfl) ?_
  | with_reducible refine o_mod (by first | decide | omega) ?_ | with_reducible refine o_mul (by first | decide | omega) ?_ | with_reducible refine o_fdv (by first | decide | omega) (by first | decide | omega) ?_ | with_reducible refine o_setL (by assumption) (by decide) (by simp) ?_
  | with_reducible refine oo_addi ?_ | with_reducible refine oo_sub ?_ | with_reducible refine oo_neg ?_ | with_reducible refine w_rev ?_ | with_reducible refine w_m0 ?_
  | with_reducible refine w_par3 ?_ | with_reducible refine w_tyl (by assumption) ?_
  | with_reducible refine o_abs ?_ | with_reducible refine o_eqs (by with_unfolding_all rfl) ?_ | with_reducible refine o_nes (by with_unfolding_all rfl) ?_ | with_reducible refine o_max2 ?_ | with_reducible refine o_min2 ?_ | with_reducible refine o_isiX (by assumption) ?_ | with_reducible refine o_lenl (by assumption) ?_ | with_reducible refine o_lent (by assumption) ?_ | with_reducible refine o_int1b ?_)
local macro_rules | `(tactic| walk_at "ws_1") => `(tactic| repeat (first | walk_at "w1_1" | dsimp only [List.set_cons_zero, List.set_cons_succ]))
namespace LB
def t__law_draw_1 (K : PySem.W.Frag) : TS :=
  (tSeq (tAsg (tOp rModI (tOp (rIx K) (tVar 0) (tC (V.int 0))) (tVar 1)) (gName 2))
    (tSeq (tAsg (tOp rFdvI (tOp (rIx K) (tVar 0) (tC (V.int 0))) (tVar 1)) (gSub (tVar 0) (tC (V.int 0)) rSetL))
    (tRet (tVar 2))))

def t__law_draw (K : PySem.W.Frag) : TS :=
  (tSeq (tIfS (tTest (tOp rGtI (tOp (rIx K) (tVar 0) (tC (V.int 0))) (tC (V.int 0))))
    (t__law_draw_1 K) tNext)
    (tSeq (tAsg (tOp (rAddA K) (tOp (rIx K) (tVar 0) (tC (V.int 2))) (tC (V.int 1))) (gSub (tVar 0) (tC (V.int 2)) rSetL))
    (tSeq (tAsg (tOp (rIx K) (tLst (tCons (tC (V.int 2147483647)) (tCons (tC (V.int 2147483629)) (tCons (tC (V.int 2147483587)) (tCons (tC (V.int 2147483579)) (tCons (tC (V.int 2147483563)) tNil)))))) (tOp rModI (tOp (rIx K) (tVar 0) (tC (V.int 2))) (tC (V.int 5)))) (gName 3))
    (tSeq (tAsg (tOp rModI (tOp rPowI (tOp (rAddA K) (tOp (rAddA K) (tOp (rIx K) (tVar 0) (tC (V.int 1))) (tOp (rMulA K) (tOp (rMulA K) (tC (V.int 98321)) (tOp (rIx K) (tVar 0) (tC (V.int 2)))) (tOp (rIx K) (tVar 0) (tC (V.int 2))))) (tC (V.int 47))) (tC (V.int 3))) (tVar 3)) (gName 4))
    (tRet (tOp rModI (tOp rFdvI (tOp rModI (tOp (rMulA K) (tVar 4) (tOp (rAddA K) (tOp rModI (tVar 4) (tC (V.int 10007))) (tOp (rMulA K) (tC (V.int 89)) (tOp (rIx K) (tVar 0) (tC (V.int 2)))))) (tC (V.int 2305843009213693907))) (tC (V.int 83))) (tVar 1)))))))

theorem prime_at {z : Int} (h0 : 0 ≤ z) (h1 : z < 5) : ∃ q : Int, [V.int 2147483647, V.int 2147483629, V.int 2147483587, V.int 2147483579, V.int 2147483563][z.toNat]? = some (.int q) ∧ 2147483563 ≤ q ∧ q ≤ 2147483647 := by
  have h : z = 0 ∨ z = 1 ∨ z = 2 ∨ z = 3 ∨ z = 4 := by omega
  rcases h with rfl | rfl | rfl | rfl | rfl
  all_goals exact ⟨_, rfl, by decide, by decide⟩
theorem pow3_ok {x : Int} (h0 : 0 ≤ x) (h1 : x < 2 ^ 64) : CPowW x 3 := by
  refine ⟨by decide, ?_⟩
  have h := intBits_le_64 (k := x) (by omega) h1
  omega
theorem mix_ok {b c : Int} (hb : 0 ≤ b) (hb2 : b < 2305843009213693921) (hc : 0 ≤ c) (hc2 : c ≤ 8388608) : 0 ≤ b + 98321 * c * c + 47 ∧ b + 98321 * c * c + 47 < 2 ^ 64 := by
  have h1 : 0 ≤ c * c := Int.mul_nonneg hc hc
  have h2 : c * c ≤ 8388608 * 8388608 := Int.mul_le_mul hc2 hc2 hc (by decide)
  have h3 : 98321 * c * c = 98321 * (c * c) := Int.mul_assoc ..
  omega
theorem pure__law_draw {K : PySem.W.Frag} {vs : List V} {H : Hp} {Q : VK} {E : XK} (h : spDraw vs H Q E) : t__law_draw K { nx := fun _ H' => Q .non H', rt := Q } (start ["pot", "many", "digit", "prime", "mixed"] vs) H := by
  obtain ⟨p, m, n, rfl, ⟨a, b, c, hp, ha, hb, hc, hn⟩, h1, h2, q⟩ := h
  show t__law_draw K _ [some (.ref p), some (.int m), none, none, none] H
  unfold t__law_draw
  walk_at "ws_1"
  refine w_ite (fun ca => ?_) (fun ca => ?_)
  · walk_at "ws_1"
    unfold t__law_draw_1
    walk_at "ws_1"
    have f1 : 0 ≤ a.fdiv m := Int.fdiv_nonneg ha (by omega)
    have f2 : 0 ≤ a.fmod m := Int.fmod_nonneg_of_pos _ (by omega)
    have f3 : a.fmod m < m := Int.fmod_lt_of_pos _ (by omega)
    exact q _ _ (Keep.put (S := At p) rfl hp) ⟨_, _, _, upd_same, f1, hb, hc, by omega⟩ f2 f3
  · walk_at "ws_1"
    refine k_lst (by simp; decide) fun l H1 n1 => ?_
    have hp1 := n1.get (upd_same (H := H) (a := p) (o := .lst [.int a, .int b, .int (c + 1)]))
    walk_at "ws_1"
    have f5 : 0 ≤ (c + 1).fmod 5 := Int.fmod_nonneg_of_pos _ (by omega)
    have f6 : (c + 1).fmod 5 < 5 := Int.fmod_lt_of_pos _ (by omega)
    obtain ⟨z, ez, z1, z2⟩ := prime_at f5 f6
    refine o_ixL n1.at_ f5 ez ?_
    walk_at "ws_1"
    have mx := mix_ok hb.1 hb.2 (show 0 ≤ c + 1 by omega) (by omega)
    refine o_pow (pow3_ok mx.1 mx.2) ?_
    walk_at "ws_1"
    generalize (b + 98321 * (c + 1) * (c + 1) + 47) ^ (3 : Int).toNat = y
    have f7 : 0 ≤ y.fmod z := Int.fmod_nonneg_of_pos _ (by omega)
    have f8 : y.fmod z < z := Int.fmod_lt_of_pos _ (by omega)
    walk_at "ws_1"
    exact q _ _ ((Keep.put (S := At p) rfl hp).trans n1.keep) ⟨_, _, _, hp1, ha, hb, by omega, by omega⟩ (Int.fmod_nonneg_of_pos _ (by omega)) (Int.fmod_lt_of_pos _ (by omega))
def t__law_pot_1 (K : PySem.W.Frag) : TS :=
  (tSeq (tAsg (tOp (rMulA K) (tOp rModI (tCB rAbs (tCons (tVar 2) tNil)) (tOp rPowI (tOp rPowI (tC (V.int 10)) (tC (V.int 60))) (tC (V.int 5)))) (tCB rInt1 (tCons (tOp rGeI (tCB rAbs (tCons (tVar 2) tNil)) (tOp rPowI (tC (V.int 10)) (tC (V.int 18)))) tNil))) (gName 3))
    (tRet (tLst (tCons (tVar 3) (tCons (tOp rModI (tOp (rAddA K) (tOp (rAddA K) (tOp (rMulA K) (tOp rModI (tVar 2) (tC (V.int 2305843009213693951))) (tC (V.int 69767))) (tOp (rMulA K) (tOp (rMulA K) (tC (V.int 8123)) (tVar 1)) (tVar 1))) (tC (V.int 31))) (tC (V.int 2305843009213693921))) (tCons (tC (V.int 0)) tNil))))))

def t__law_pot (K : PySem.W.Frag) : TS :=
  (tSeq (tAsg (tOp (rAddA K) (tOp (rMulA K) (tC (V.int 19)) (tVar 1)) (tC (V.int 6))) (gName 2))
    (tSeq (tIfS (tTest (tOp rLtI (tVar 1) (tCB (rLen K) (tCons (tVar 0) tNil))))
    (tAsg (tOp (rIx K) (tVar 0) (tVar 1)) (gName 2)) tNext)
    (t__law_pot_1 K)))

def t__law_any (K : PySem.W.Frag) : TS :=
  (tRet (tOp (rIx K) (tVar 1) (tCall spDraw [] E0 (tCons (tVar 0) (tCons (tCB (rLen K) (tCons (tVar 1) tNil)) tNil)))))

def t__law_mixed_1 (K : PySem.W.Frag) : TS :=
  (tDrop (tBM K "list" rAppend (tVar 3) (tCons (tBM K "list" rPopA (tVar 2) (tCons (tCall spDraw [] E0 (tCons (tVar 0) (tCons (tCB (rLen K) (tCons (tVar 2) tNil)) tNil))) tNil)) tNil)))

def t__law_mixed (K : PySem.W.Frag) : TS :=
  (tSeq (tPar 2 3 (tCons (tCB (rListOf K) (tCons (tVar 1) tNil)) (tCons (tLst tNil) tNil)))
    (tSeq (tWhile (tTest (tOp (rNeA K) (tVar 2) (tLst tNil)))
    (t__law_mixed_1 K))
    (tRet (tVar 3))))

theorem pure__law_any {K : PySem.W.Frag} {vs : List V} {H : Hp} {Q : VK} {E : XK} (h : spAny K vs H Q E) : t__law_any K { nx := fun _ H' => Q .non H', rt := Q } (start ["pot", "items"] vs) H := by
  obtain ⟨p, a, xs, N, rfl, pt, hN, na, e, h1, h2, q⟩ := h
  show t__law_any K _ [some (.ref p), some (.ref a)] H
  unfold t__law_any
  walk_at "ws_1"
  have ln : LenV K (.ref a) H xs.length := by
    rcases e with e | e
    · exact lenl e
    · exact lent e
  refine o_len ln ?_
  walk_at "ws_1"
  refine o_draw pt hN (by omega) (by omega) fun H' k kp pt' k0 k1 => ?_
  have hk : k.toNat < xs.length := by omega
  have e2 : xs[k.toNat]? = some xs[k.toNat] := List.getElem?_eq_getElem hk
  rcases e with e | e
  · exact o_ixL (kp.all _ _ na e) k0 e2 (q H' _ _ e2 kp pt')
  · exact o_ixT (kp.tup _ _ e) k0 e2 (q H' _ _ e2 kp pt')
mutual
theorem dd_dp {K : PySem.W.Frag} {S : Addr → Prop} {H : Hp} : ∀ {v : V} {d : PyData}, DD S H v d → d.canLay0 = true → Dp K H v d
  | _, _, .non, _ => .non
  | _, _, .bl b, _ => .bl b
  | _, _, .int i, _ => .int i
  | _, _, .str x, _ => .str x
  | _, _, .tup e r, h => .tup (.inl (.inl e)) (dds_dp r (by simpa only [PyData.canLay0] using h))
  | _, _, .lst _ e r, h => .lst (.inl (.inl e)) (dds_dp r (by simpa only [PyData.canLay0] using h))
  | _, _, .dct _ e r, h => by simp only [PyData.canLay0] at h; cases h
theorem dds_dp {K : PySem.W.Frag} {S : Addr → Prop} {H : Hp} : ∀ {vs : List V} {ds : List PyData}, DDs S H vs ds → PyData.canLayAll0 ds = true → DpAll K H vs ds
  | _, _, .nil, _ => .nil
  | _, _, .cons h r, e => by
    simp only [PyData.canLayAll0, Bool.and_eq_true] at e
    exact .cons (dd_dp h e.1) (dds_dp r e.2)
end
theorem canLayAll0_of : ∀ {ds : List PyData}, (∀ d ∈ ds, d.canLay0 = true) → PyData.canLayAll0 ds = true
  | [], _ => by simp only [PyData.canLayAll0]
  | d :: ds, h => by
    simp only [PyData.canLayAll0, Bool.and_eq_true]
    exact ⟨h d List.mem_cons_self, canLayAll0_of fun e he => h e (List.mem_cons_of_mem _ he)⟩
theorem depthAll_of {k : Nat} : ∀ {ds : List PyData}, (∀ d ∈ ds, d.depth ≤ k) → PyData.depthAll ds ≤ k
  | [], _ => by simp only [PyData.depthAll]; omega
  | d :: ds, h => by
    simp only [PyData.depthAll]
    have h1 := h d List.mem_cons_self
    have h2 := depthAll_of fun e he => h e (List.mem_cons_of_mem _ he)
    omega
theorem shaped_list {ds : List PyData} (h : ∀ d ∈ ds, d.canLay0 = true ∧ d.depth ≤ 60) : SeqAt.shaped (.list ds) = true := by
  unfold SeqAt.shaped
  simp only [PyData.canLay0, PyData.depth, Bool.and_eq_true, decide_eq_true_eq]
  exact ⟨canLayAll0_of fun d hd => (h d hd).1, decide_eq_true (by have := depthAll_of (k := 60) fun d hd => (h d hd).2; omega)⟩
theorem shaped_tuple {ds : List PyData} (h : ∀ d ∈ ds, d.canLay0 = true ∧ d.depth ≤ 60) : SeqAt.shaped (.tuple ds) = true := by
  unfold SeqAt.shaped
  simp only [PyData.canLay0, PyData.depth, Bool.and_eq_true, decide_eq_true_eq]
  exact ⟨canLayAll0_of fun d hd => (h d hd).1, decide_eq_true (by have := depthAll_of (k := 60) fun d hd => (h d hd).2; omega)⟩
theorem dds_of_all {S : Addr → Prop} {H : Hp} {P : PyData → Prop} : ∀ {vs : List V}, (∀ v ∈ vs, ∃ d, DD S H v d ∧ P d) → ∃ ds, DDs S H vs ds ∧ ∀ d ∈ ds, P d
  | [], _ => ⟨[], .nil, fun _ h => by cases h⟩
  | v :: vs, h => by
    obtain ⟨d, h1, h2⟩ := h v List.mem_cons_self
    obtain ⟨ds, h3, h4⟩ := dds_of_all fun u hu => h u (List.mem_cons_of_mem _ hu)
    exact ⟨d :: ds, .cons h1 h3, fun e he => by
      rcases List.mem_cons.mp he with rfl | he
      · exact h2
      · exact h4 e he⟩
theorem all_of_dds {S : Addr → Prop} {H : Hp} {P : PyData → Prop} : ∀ {vs : List V} {ds : List PyData}, DDs S H vs ds → (∀ d ∈ ds, P d) → ∀ v ∈ vs, ∃ d, DD S H v d ∧ P d
  | _, _, .nil, _, v, h => by cases h
  | _, _, .cons h r, p, v, hv => by
    rcases List.mem_cons.mp hv with rfl | hv
    · exact ⟨_, h, p _ List.mem_cons_self⟩
    · exact all_of_dds r (fun d hd => p d (List.mem_cons_of_mem _ hd)) v hv
theorem o_neEmpty {K : PySem.W.Frag} {S : Addr → Prop} {H : Hp} {Q : VK} {a b : Addr} {xs : List V} (h : H a = some (.lst xs)) (hb : H b = some (.lst []))
    (hx : ∀ v ∈ xs, ∃ d, DD S H v d ∧ (d.canLay0 = true ∧ d.depth ≤ 60)) (q : Q (.bl (!xs.isEmpty)) H) : rNeA K (.ref a) (.ref b) H Q := by
  obtain ⟨ds, h1, h2⟩ := dds_of_all hx
  refine .inr ⟨.list ds, .list [], .lst (.inl (.inl h)) (dds_dp h1 (canLayAll0_of fun d hd => (h2 d hd).1)), .lst (.inl (.inl hb)) .nil, shaped_list h2, by decide, ?_⟩
  have e : PyData.eqv (.list ds) (.list []) = xs.isEmpty := by
    have := h1.length
    cases ds <;> cases xs <;> simp_all [PyData.eqv, PyData.eqvAll]
  rw [e]
  exact q
theorem perm_erase {α : Type} {xs ys ls : List α} {k : Nat} {y : α} (p : xs.Perm (ys ++ ls)) (e : ls[k]? = some y) : xs.Perm (ys ++ [y] ++ ls.eraseIdx k) := by
  obtain ⟨hk, e⟩ := List.getElem?_eq_some_iff.mp e
  subst e
  have h : ls.Perm (ls[k] :: ls.eraseIdx k) := by
    rw [List.eraseIdx_eq_take_drop_succ]
    have h1 : ls = ls.take k ++ ls[k] :: ls.drop (k + 1) := by
      rw [← List.drop_eq_getElem_cons hk, List.take_append_drop]
    have h2 : (ls.take k ++ ls[k] :: ls.drop (k + 1)).Perm (ls[k] :: (ls.take k ++ ls.drop (k + 1))) := List.perm_middle
    exact (List.Perm.of_eq h1).trans h2
  rw [List.append_assoc]
  exact p.trans ((List.Perm.refl ys).append h)
theorem pure__law_mixed {K : PySem.W.Frag} {vs : List V} {H : Hp} {Q : VK} {E : XK} (h : spMixed K vs H Q E) : t__law_mixed K { nx := fun _ H' => Q .non H', rt := Q } (start ["pot", "items", "left", "found"] vs) H := by
  obtain ⟨p, a, xs, ds, N, rfl, pt, hN, na, ea, hl, hd, hp, q⟩ := h
  show t__law_mixed K _ [some (.ref p), some (.ref a), none, none] H
  unfold t__law_mixed
  walk_at "ws_1"
  refine o_listof (xs := xs) (by rcases ea with e | e; exact .inl (.inl (.inl e)); exact .inr (.inl (.inl e))) fun l H1 n1 => ?_
  walk_at "ws_1"
  refine k_lst (by simp) fun f H2 n2 => ?_
  walk_at "ws_1"
  have hx : ∀ v ∈ xs, ∃ d, DD All H v d ∧ (d.canLay0 = true ∧ d.depth ≤ 60) := all_of_dds hd hp
  have k2 : Keep (At p) H H2 := n1.keep.trans n2.keep
  have lf : l ≠ f := n2.ne n1.at_
  have f0 : H f = none := by
    cases e : H f with
    | none => rfl
    | some o => have := n1.get e; rw [n2.no] at this; cases this
  have pl : p ≠ l := pt.ne n1.no
  have pf : p ≠ f := pt.ne f0
  refine ⟨fun m σ H3 => ∃ ls ys, σ = [some (.ref p), some (.ref a), some (.ref l), some (.ref f)] ∧ H3 l = some (.lst ls) ∧ H3 f = some (.lst ys) ∧ xs.Perm (ys ++ ls) ∧ m = ls.length ∧ Keep (At p) H H3 ∧ Pot H3 p (N - xs.length + ls.length),
    ⟨xs.length, xs, [], rfl, n2.get n1.at_, n2.at_, List.Perm.refl _, rfl, k2, ((pt.new n1).new n2).le (by omega)⟩, ?_⟩
  rintro m σ H3 ⟨ls, ys, rfl, el, ef, pm, rfl, k3, pt3⟩
  have hx3 : ∀ v ∈ ls, ∃ d, DD All H3 v d ∧ (d.canLay0 = true ∧ d.depth ≤ 60) := fun v hv => by
    obtain ⟨d, h1, h2⟩ := hx v (pm.mem_iff.mpr (List.mem_append_right _ hv))
    exact ⟨d, h1.keep (k3.mono fun _ _ => trivial), h2⟩
  have hlen : xs.length = ys.length + ls.length := by rw [pm.length_eq, List.length_append]
  walk_at "ws_1"
  refine k_lst (by simp) fun e H4 n4 => ?_
  refine o_neEmpty (S := All) (n4.get el) n4.at_ (fun v hv => by obtain ⟨d, h1, h2⟩ := hx3 v hv; exact ⟨d, h1.keep n4.keep, h2⟩) ?_
  walk_at "ws_1"
  cases hls : ls with
  | nil =>
    subst hls
    simp only [List.isEmpty_nil, Bool.not_true, Bool.false_eq_true, if_false]
    walk_at "ws_1"
    rw [List.append_nil] at pm
    exact q H4 f ys pm f0 (n4.get ef) (k3.trans n4.keep) (pt3.new n4)
  | cons y0 r =>
    simp only [List.isEmpty_cons, Bool.not_false, if_true]
    rw [← hls]
    have l1 : 1 ≤ ls.length := by rw [hls, List.length_cons]; omega
    refine ⟨fun σ' H' => ∃ m', m' < ls.length ∧ _, fun _ _ h => h, ?_⟩
    have ef4 := n4.get ef
    have el4 := n4.get el
    unfold t__law_mixed_1
    walk_at "ws_1"
    refine o_draw (pt3.new n4) (by omega) (by omega) (by omega) fun H5 k kp5 pt5 k0 k1 => ?_
    have el5 := kp5.all _ _ (fun z => pl z.symm) el4
    have ef5 := kp5.all _ _ (fun z => pf z.symm) ef4
    have hk : k.toNat < ls.length := by omega
    walk_at "ws_1"
    refine o_popat (y := ls[k.toNat]) el5 k0 k1 (by omega) (List.getElem?_eq_getElem hk) fun H6 p6 => ?_
    walk_at "ws_1"
    have ef6 := p6.get lf.symm ef5
    refine o_app ef6 (Nat.lt_of_le_of_lt (by omega : ys.length ≤ 1000) (by decide)) fun H7 p7 => ?_
    walk_at "ws_1"
    refine ⟨ls.length - 1, by omega, ls.eraseIdx k.toNat, ys ++ [ls[k.toNat]], rfl, p7.get lf p6.at_, p7.at_, perm_erase pm (List.getElem?_eq_getElem hk), ?_, ?_, ?_⟩
    · rw [List.length_eraseIdx, if_pos hk]
    · exact p7.keep0 (p6.keep0 ((k3.trans n4.keep).trans kp5) n1.no el5) f0 ef6
    · refine ((pt5.put p6 pl).put p7 pf).le ?_
      rw [List.length_eraseIdx, if_pos hk]
      omega
end LB

namespace LB
open PySem PySem.Spec PyProof.Rows L2
/-! ### operations and logs as data -/
structure Op where
  w : Bool
  v : Int
  b : Int
  e : Int
def kindS (w : Bool) : Str := if w = true then "write" else "read"
def Op.dat (o : Op) : PyData := .tuple [.str (kindS o.w), .int o.v, .int o.b, .int o.e]
def Op.ok (o : Op) : Prop := (o.w = true → 1 ≤ o.v) ∧ 0 ≤ o.v ∧ o.v ≤ 1000000000 ∧ -1000000000000000 ≤ o.b ∧ o.b ≤ o.e ∧ o.e ≤ 1000000000000000
/-- the values that are written, in sequence -/
def wr (ops : List Op) : List Int := (ops.filter (·.w)).map (·.v)
def LogOk (ops : List Op) : Prop := (∀ o ∈ ops, o.ok) ∧ (wr ops).Nodup
theorem wr_append (as bs : List Op) : wr (as ++ bs) = wr as ++ wr bs := by simp [wr]
theorem LogOk.perm {as bs : List Op} (p : as.Perm bs) (h : LogOk as) : LogOk bs :=
  ⟨fun o ho => h.1 o (p.mem_iff.mpr ho), (((p.filter _).map _).nodup_iff).mp h.2⟩
theorem perm_map_inv {α β : Type} {f : α → β} {l l' : List β} (p : l.Perm l') : ∀ {as : List α}, l = as.map f → ∃ bs, l' = bs.map f ∧ as.Perm bs := by
  induction p with
  | nil => intro as h; exact ⟨as, h, .refl _⟩
  | cons x _ ih =>
    intro as h
    cases as with
    | nil => cases h
    | cons a as =>
      rw [List.map_cons] at h
      injection h with h1 h2
      obtain ⟨bs, e, q⟩ := ih h2
      exact ⟨a :: bs, by rw [List.map_cons, e, h1], q.cons a⟩
  | swap x y l =>
    intro as h
    cases as with
    | nil => cases h
    | cons a as =>
      cases as with
      | nil => injection h with _ h; cases h
      | cons b as =>
        rw [List.map_cons, List.map_cons] at h
        injection h with h1 h
        injection h with h2 h3
        exact ⟨b :: a :: as, by rw [List.map_cons, List.map_cons, h1, h2, h3], .swap _ _ _⟩
  | trans _ _ ih1 ih2 =>
    intro as h
    obtain ⟨bs, e, q⟩ := ih1 h
    obtain ⟨cs, e2, q2⟩ := ih2 e
    exact ⟨cs, e2, q.trans q2⟩
theorem strOk_kind (w : Bool) : PyData.strOk (kindS w) = true := by cases w <;> decide +kernel
theorem Op.lay (o : Op) : o.dat.canLay0 = true ∧ o.dat.depth ≤ 60 := by
  refine ⟨?_, ?_⟩
  · unfold Op.dat
    simp only [PyData.canLay0, PyData.canLayAll0, strOk_kind, Bool.and_self, Bool.true_and]
  · unfold Op.dat
    simp only [PyData.depth, PyData.depthAll]
    decide
theorem kind_any {i : Nat} {v : V} (h : [V.str "write", V.str "read", V.str "read"][i]? = some v) : ∃ w, v = .str (kindS w) := by
  match i, h with
  | 0, h => exact ⟨true, (Option.some.inj h).symm⟩
  | 1, h => exact ⟨false, (Option.some.inj h).symm⟩
  | 2, h => exact ⟨false, (Option.some.inj h).symm⟩
theorem kind_eq (w : Bool) : decide (V.str (kindS w) = V.str "write") = w := by cases w <;> decide +kernel
abbrev Or2 (p f : Addr) : Addr → Prop := fun b => b = p ∨ b = f
theorem Keep.trans0 {S S' : Addr → Prop} {H0 H H1 : Hp} (a : Keep S H0 H) (b : Keep S' H H1) (h : ∀ c, S' c → S c ∨ H0 c = none) : Keep S H0 H1 :=
  ⟨fun c o n e => b.all c o (fun z => by
      rcases h c z with y | y
      · exact n y
      · rw [y] at e; cases e) (a.all c o n e), fun c xs e => b.tup c xs (a.tup c xs e)⟩
theorem DDs.snoc {S : Addr → Prop} {H : Hp} {vs : List V} {ds : List PyData} {v : V} {d : PyData} (h : DDs S H vs ds) (h2 : DD S H v d) : DDs S H (vs ++ [v]) (ds ++ [d]) := h.append (.cons h2 .nil)
/-- an operation just laid -/
theorem op_new {H H1 : Hp} {t : Addr} {w : Bool} {v b e : Int} (n : New H H1 t (.tup [.str (kindS w), .int v, .int b, .int e])) : DD All H1 (.ref t) (Op.dat ⟨w, v, b, e⟩) :=
  .tup n.at_ (.cons (.str _) (.cons (.int _) (.cons (.int _) (.cons (.int _) .nil))))
theorem inV_ints {ws : List Int} {z : Int} : inV (.int z) (ws.map V.int) = decide (z ∈ ws) := by
  unfold inV
  rw [List.any_map]
  induction ws with
  | nil => simp
  | cons w ws ih =>
    rw [List.any_cons, ih]
    show (eqV (.int w) (.int z) || _) = _
    have : eqV (.int w) (.int z) = decide (w = z) := by
      unfold eqV
      first
        | rfl
        | simp
    rw [this]
    by_cases h : w = z
    · subst h; simp
    · have h' : z ≠ w := fun e => h e.symm
      simp [h, h']
theorem flat_ints {ws : List Int} : (ws.map V.int).all flatV = true := by
  rw [List.all_map, List.all_eq_true]
  intro x _
  rfl
theorem o_niInts {K : PySem.W.Frag} {H : Hp} {Q : VK} {a : Addr} {ws : List Int} {z : Int} (e : H a = some (.lst (ws.map V.int))) (q : Q (.bl (!decide (z ∈ ws))) H) : rNiA K (.int z) (.ref a) H Q :=
  .inl ⟨a, _, rfl, .inl (.inl (.inl e)), rfl, flat_ints, by rw [if_pos rfl, inV_ints]; exact q⟩
/-! loops: the end D kept whole -/
def Looped (J : It) (g : TG) (tb : TS) (D : Ends) (σ : LB.St) (H1 : Hp) : Prop := ∃ W : Nat → Nat → LB.St → Hp → Prop, (∃ m, W 0 m σ H1) ∧ ∀ i m σ H, W i m σ H →
    (J.stop i H ∧ D.nx σ H) ∨ (J.go i H ∧ ∃ N : LB.St → Hp → Prop, (∀ σ' H', N σ' H' → ∃ m', m' < m ∧ W (i + 1) m' σ' H') ∧ ∀ x H', J.yld i H x H' → g x σ H' fun σ2 H2 => tb { D with nx := N, ct := N, bk := D.nx } σ2 H2)
def kR1 (g : TG) (tb : TS) (D : Ends) (σ : LB.St) : List V → Hp → Prop := fun vs H1 => ∃ j : Int, vs = [.int j] ∧ -(2 ^ 62) ≤ j ∧ j < 2 ^ 62 ∧ Looped (Itr 0 j.toNat) g tb D σ H1
def kR2 (g : TG) (tb : TS) (D : Ends) (σ : LB.St) : List V → Hp → Prop := fun vs H1 => ∃ i j : Int, vs = [.int i, .int j] ∧ (-(2 ^ 62) ≤ i ∧ i < 2 ^ 62 ∧ -(2 ^ 62) ≤ j ∧ j < 2 ^ 62) ∧ Looped (Itr i (j - i).toNat) g tb D σ H1
def kFl (K : PySem.W.Frag) (g : TG) (tb : TS) (D : Ends) (σ : LB.St) : VK := fun x H1 => ∃ a, x = .ref a ∧ (∃ xs, SqL K H1 a xs) ∧ Looped (Itl K a) g tb D σ H1
def kFt (K : PySem.W.Frag) (g : TG) (tb : TS) (D : Ends) (σ : LB.St) : VK := fun x H1 => ∃ a, x = .ref a ∧ (∃ xs, SqT K H1 a xs) ∧ Looped (Itt K a) g tb D σ H1
section
variable {K : PySem.W.Frag} {g : TG} {tb : TS} {D : Ends} {σ : LB.St} {H : Hp} {ta : TA} {te : TE}
theorem w_forR1 (h : ta σ H (kR1 g tb D σ)) : tFor (iRng1 ta) g tb D σ H := h
theorem w_forR2 (h : ta σ H (kR2 g tb D σ)) : tFor (iRng2 ta) g tb D σ H := h
theorem w_forL (h : te σ H (kFl K g tb D σ)) : tFor (iList K te) g tb D σ H := h
theorem w_forT (h : te σ H (kFt K g tb D σ)) : tFor (iTup K te) g tb D σ H := h
theorem w_forSl (h : te σ H (kFl K g tb D σ)) : tFor (iSeq K te) g tb D σ H := .inl h
theorem w_forSt (h : te σ H (kFt K g tb D σ)) : tFor (iSeq K te) g tb D σ H := .inr h
theorem k_R1 {j : Int} (h1 : -(2 ^ 62) ≤ j) (h2 : j < 2 ^ 62) (Pv : Nat → LB.St → Hp → Prop) (h0 : Pv 0 σ H)
    (hs : ∀ i σ H, i < j.toNat → Pv i σ H → g (.int (0 + i)) σ H fun σ2 H2 => tb { D with nx := Pv (i + 1), ct := Pv (i + 1), bk := D.nx } σ2 H2) (hd : ∀ σ H, Pv j.toNat σ H → D.nx σ H) : kR1 g tb D σ [.int j] H :=
  ⟨j, rfl, h1, h2, for_range Pv h0 hs hd⟩
theorem k_R2 {i j : Int} (h : -(2 ^ 62) ≤ i ∧ i < 2 ^ 62 ∧ -(2 ^ 62) ≤ j ∧ j < 2 ^ 62) (Pv : Nat → LB.St → Hp → Prop) (h0 : Pv 0 σ H)
    (hs : ∀ n σ H, n < (j - i).toNat → Pv n σ H → g (.int (i + n)) σ H fun σ2 H2 => tb { D with nx := Pv (n + 1), ct := Pv (n + 1), bk := D.nx } σ2 H2) (hd : ∀ σ H, Pv (j - i).toNat σ H → D.nx σ H) : kR2 g tb D σ [.int i, .int j] H :=
  ⟨i, j, rfl, h, for_range Pv h0 hs hd⟩
theorem k_Fl {a : Addr} {xs : List V} (e : H a = some (.lst xs)) (Pv : Nat → LB.St → Hp → Prop) (h0 : Pv 0 σ H) (hl : ∀ i σ H, i ≤ xs.length → Pv i σ H → H a = some (.lst xs))
    (hs : ∀ i x σ H, xs[i]? = some x → Pv i σ H → g x σ H fun σ2 H2 => tb { D with nx := Pv (i + 1), ct := Pv (i + 1), bk := D.nx } σ2 H2) (hd : ∀ σ H, Pv xs.length σ H → D.nx σ H) : kFl K g tb D σ (.ref a) H :=
  ⟨a, rfl, ⟨xs, .inl (.inl e)⟩, for_list Pv h0 (fun i σ H h1 h2 => .inl (.inl (hl i σ H h1 h2))) hs hd⟩
theorem k_Ft {a : Addr} {xs : List V} (e : H a = some (.tup xs)) (Pv : Nat → LB.St → Hp → Prop) (h0 : Pv 0 σ H) (hl : ∀ i σ H, i ≤ xs.length → Pv i σ H → H a = some (.tup xs))
    (hs : ∀ i x σ H, xs[i]? = some x → Pv i σ H → g x σ H fun σ2 H2 => tb { D with nx := Pv (i + 1), ct := Pv (i + 1), bk := D.nx } σ2 H2) (hd : ∀ σ H, Pv xs.length σ H → D.nx σ H) : kFt K g tb D σ (.ref a) H :=
  ⟨a, rfl, ⟨xs, .inl (.inl e)⟩, for_tup Pv h0 (fun i σ H h1 h2 => .inl (.inl (hl i σ H h1 h2))) hs hd⟩
end
/-- wild(pot, most, room): a log of drawn operations -/
def spWild : Sp := fun vs H Q _ => ∃ (p : Addr) (most room : Int) (N : Nat), vs = [.ref p, .int most, .int room] ∧ Pot H p N ∧ 0 ≤ most ∧ most ≤ 100 ∧ 1 ≤ room ∧ room ≤ 1000 ∧ 8 * most.toNat + 8 ≤ N ∧
  ∀ (H' : Hp) (t : Addr) (ops : List Op), Keep (At p) H H' → Pot H' p (N - (8 * most.toNat + 8)) → DD All H' (.ref t) (.tuple (ops.map Op.dat)) → LogOk ops → ops.length ≤ most.toNat →
    (∀ o ∈ ops, o.v ≤ 4 ∧ 0 ≤ o.b ∧ o.e ≤ 2 * room) → Q (.ref t) H'
theorem spWild_arity {vs : List V} {H : Hp} {Q : VK} {E : XK} (h : spWild vs H Q E) : vs.length = 3 := by
  obtain ⟨_, _, _, _, rfl, _⟩ := h
  rfl
/-- true(pot, many, off, step): a log made from a hidden order -/
def spTrue : Sp := fun vs H Q _ => ∃ (p : Addr) (many off step : Int) (N : Nat), vs = [.ref p, .int many, .int off, .int step] ∧ Pot H p N ∧ 0 ≤ many ∧ many ≤ 200 ∧ 0 ≤ off ∧ off ≤ 100 ∧ 0 ≤ step ∧ step ≤ 1000 ∧ 8 * many.toNat + 8 ≤ N ∧
  ∀ (H' : Hp) (t : Addr) (ops : List Op), Keep (At p) H H' → Pot H' p (N - (8 * many.toNat + 8)) → DD All H' (.ref t) (.tuple (ops.map Op.dat)) → LogOk ops → ops.length = many.toNat →
    (∀ o ∈ ops, o.v ≤ many ∧ -100000000 ≤ o.b ∧ o.e ≤ 100000100000000) → Q (.ref t) H'
theorem spTrue_arity {vs : List V} {H : Hp} {Q : VK} {E : XK} (h : spTrue vs H Q E) : vs.length = 4 := by
  obtain ⟨_, _, _, _, _, rfl, _⟩ := h
  rfl
end LB

namespace LB
open PySem PySem.Spec PyProof.Rows L2
/-! ### a sign ahead taken off, and what a number's text says -/
def cutM : List Nat → List Nat
  | 45 :: r => r
  | l => l
theorem tl_rmpre (x : Str) : TL.tl (Txt.removeprefix x "-") = cutM (TL.tl x) := by
  have h1 : (("-" : Str)).length = 1 := rfl
  rw [StrLaws.removeprefix_eq, h1]
  have hs : Builtin.Str.subAt x "-" 0 = (((TL.tl x).take 1) == [45]) := StrLaws.subAt_eq x "-" 0
  have hl := TL.len_tl x
  rw [hs]
  show TL.tl (if (decide (0 + 1 ≤ x.length) && ((TL.tl x).take 1 == [45])) = true then ⟨(((TL.tl x).drop 1).take (x.length - 1)).toArray⟩ else x) = _
  match e : TL.tl x with
  | [] => rw [if_neg (by rw [e] at hl; simp at hl; simp [hl])]; exact e
  | c :: r =>
    rw [e] at hl
    have hl : x.length = r.length + 1 := hl
    by_cases hc : c = 45
    · subst hc
      rw [if_pos (by rw [decide_eq_true (by omega)]; rfl)]
      show ((45 :: r).drop 1).take (x.length - 1) = r
      rw [hl]; simp
    · rw [if_neg (by simp [hc])]
      rw [e]
      unfold cutM
      split
      · rename_i h; cases h; exact absurd rfl hc
      · rfl
def digitsB (l : List Nat) : Bool := l.all fun c => decide (c ∈ (("0123456789" : Str)).cps.toList)
theorem digit_mem (c : Nat) : c ∈ (("0123456789" : Str)).cps.toList ↔ 48 ≤ c ∧ c ≤ 57 := by
  show c ∈ [48, 49, 50, 51, 52, 53, 54, 55, 56, 57] ↔ _
  simp only [List.mem_cons, List.not_mem_nil, or_false]
  omega
theorem digitsB_all {l : List Nat} : digitsB l = true ↔ NumText.AllDigits l := by
  unfold digitsB
  rw [List.all_eq_true]
  exact ⟨fun h c hc => (digit_mem c).mp (of_decide_eq_true (h c hc)), fun h c hc => decide_eq_true ((digit_mem c).mpr (h c hc))⟩
/-- what a text says as a number -/
def valL (l : List Nat) : Int := match l with
  | 45 :: r => -((NumText.digitsVal r : Nat) : Int)
  | l => ((NumText.digitsVal l : Nat) : Int)
def pnum (a : Str) : Option Int :=
  if (cutM (TL.tl a)).length = 0 ∨ 20 < (cutM (TL.tl a)).length then none
  else if digitsB (cutM (TL.tl a)) = false then none
  else if Str.ofString (toString (valL (TL.tl a))) = a then some (valL (TL.tl a)) else none
theorem cut_len (l : List Nat) : l.length ≤ (cutM l).length + 1 := by
  unfold cutM; split <;> simp
theorem int_of_text {a : Str} (h : ¬ ((cutM (TL.tl a)).length = 0 ∨ 20 < (cutM (TL.tl a)).length)) (hd : digitsB (cutM (TL.tl a)) = true) : PySem.intText? a = some (valL (TL.tl a)) ∧ a.length ≤ 21 := by
  have hl := TL.len_tl a
  have hc := cut_len (TL.tl a)
  have hd := digitsB_all.mp hd
  have h20 : a.length ≤ 21 := by omega
  refine ⟨?_, h20⟩
  match e : TL.tl a with
  | [] => rw [e] at h; exact absurd (Or.inl rfl) h
  | c :: r =>
    rw [e] at h hd
    by_cases hc : c = 45
    · subst hc
      exact PySem.intText_neg (x := a) (cs := r) e hd (fun z => h (Or.inl (by rw [z]; rfl))) (by omega)
    · have e1 : cutM (c :: r) = c :: r := by
        unfold cutM; split
        · rename_i h; cases h; exact absurd rfl hc
        · rfl
      have e2 : valL (c :: r) = ((NumText.digitsVal (c :: r) : Nat) : Int) := by
        unfold valL; split
        · rename_i h; cases h; exact absurd rfl hc
        · rfl
      rw [e1] at hd
      rw [e2]
      have := PySem.intText_digits (x := a) (by rw [show a.cps.toList = c :: r from e]; exact hd) (by rw [show a.cps.toList = c :: r from e]; simp) (by omega)
      rw [show a.cps.toList = c :: r from e] at this
      exact this
theorem intL_cut (i : Int) : cutM (intL i) = TL.numL i.natAbs := by
  unfold intL
  split
  · rfl
  · have h := TL.numL_digits i.natAbs
    match e : TL.numL i.natAbs with
    | [] => rfl
    | c :: r =>
      have := h c (by rw [e]; exact List.mem_cons_self)
      unfold cutM; split
      · rename_i z; cases z; omega
      · rfl
theorem intL_val (i : Int) : valL (intL i) = i := by
  unfold intL
  split
  · rename_i h
    show -((NumText.digitsVal (TL.numL i.natAbs) : Nat) : Int) = i
    rw [TL.numL_val]; omega
  · rename_i h0
    have h := TL.numL_digits i.natAbs
    have hv := TL.numL_val i.natAbs
    match e : TL.numL i.natAbs with
    | [] => exact absurd e (TL.numL_ne _)
    | c :: r =>
      have := h c (by rw [e]; exact List.mem_cons_self)
      have e2 : valL (c :: r) = ((NumText.digitsVal (c :: r) : Nat) : Int) := by
        unfold valL; split
        · rename_i z; cases z; omega
        · rfl
      rw [e2, ← e, hv]; omega
theorem intL_few {i : Int} {k : Nat} (hk : 0 < k) (h : i.natAbs < 10 ^ k) : (intL i).length ≤ k + 1 := by
  have := TL.numL_len hk h
  unfold intL; split
  · rw [List.length_cons]; omega
  · omega
theorem pnum_int {i : Int} (h : i.natAbs < 10 ^ 20) : pnum (toString i) = some i := by
  unfold pnum
  rw [show TL.tl (Str.ofString (toString i)) = intL i from tl_int i, intL_cut, intL_val]
  have h1 := TL.numL_len (k := 20) (by decide) h
  have h2 : (TL.numL i.natAbs).length ≠ 0 := fun z => TL.numL_ne _ (List.length_eq_zero_iff.mp z)
  rw [if_neg (by omega), if_neg (by rw [digitsB_all.mpr (TL.numL_digits _)]; simp), if_pos rfl]
theorem intL_free {i : Int} {s : Nat} (h : s < 45) : s ∉ intL i := by
  unfold intL; split
  · intro hm
    rcases List.mem_cons.mp hm with e | e
    · omega
    · exact TL.numL_free (.inl (by omega)) e
  · exact TL.numL_free (.inl (by omega))
theorem log_of {i : Int} (h : i.natAbs < 10 ^ 20) : i.natAbs.log2 < 1920 := by
  by_cases z : i.natAbs = 0
  · rw [z]; decide
  · exact (Nat.log2_lt z).mpr (Nat.lt_trans h (by decide +kernel))
/-! ### parts, rows, pages -/
/-- a text or a number -/
inductive Part where
  | s (x : Str)
  | n (i : Int)
def Part.v : Part → V
  | .s x => .str x
  | .n i => .int i
def Part.t : Part → Str
  | .s x => x
  | .n i => toString i
def Part.d : Part → PyData
  | .s x => .str x
  | .n i => .int i
def Part.ok : Part → Prop
  | .s x => x.length ≤ 100
  | .n i => i.natAbs < 10 ^ 20
theorem Part.len {p : Part} (h : p.ok) : p.t.length ≤ 100 := by
  cases p with
  | s x => exact h
  | n i => have := intL_few (by decide) h; show (Str.ofString (toString i)).length ≤ 100; rw [len_int]; omega
def rowT (ps : List Part) : Str := Txt.join " " (ps.map Part.t)
theorem sum_le {l : List Str} {b : Nat} (h : ∀ x ∈ l, x.length ≤ b) : (l.map (·.length)).sum ≤ l.length * b := StrLaws.sumLen_le l h
theorem join_len (y : Str) (l : List Str) : (Txt.join y l).length ≤ (l.map (·.length)).sum + l.length * y.length := by
  rw [TL.join_eq]; exact StrLaws.join_length_le y l
def Op.parts (o : Op) : List Part := [.s (kindS o.w), .n o.v, .n o.b, .n o.e]
def rowS (o : Op) : Str := rowT o.parts
def pageS (ops : List Op) : Str := if ops = [] then "-" else Txt.join "\n" (ops.map rowS)
theorem Op.small {o : Op} (h : o.ok) : o.v.natAbs < 10 ^ 20 ∧ o.b.natAbs < 10 ^ 20 ∧ o.e.natAbs < 10 ^ 20 := by
  obtain ⟨_, h1, h2, h3, h4, h5⟩ := h
  have : (10 : Nat) ^ 20 = 100000000000000000000 := by decide
  omega
theorem kindS_len (w : Bool) : (kindS w).length ≤ 5 := by cases w <;> decide
theorem Op.parts_ok {o : Op} (h : o.ok) : ∀ p ∈ o.parts, p.ok := by
  have := Op.small h
  intro p hp
  simp only [Op.parts, List.mem_cons, List.not_mem_nil, or_false] at hp
  rcases hp with rfl | rfl | rfl | rfl
  · exact Nat.le_trans (kindS_len _) (by decide)
  · exact this.1
  · exact this.2.1
  · exact this.2.2
theorem kind_free {w : Bool} {s : Nat} (h : s < 45) : s ∉ TL.tl (kindS w) := by
  have : ∀ c ∈ TL.tl (kindS w), 45 ≤ c := by cases w <;> decide
  intro hm; have := this s hm; omega
theorem part_free {o : Op} {s : Nat} (hs : s < 45) : ∀ x ∈ o.parts.map Part.t, s ∉ TL.tl x := by
  intro x hx
  simp only [Op.parts, List.map_cons, List.map_nil, List.mem_cons, List.not_mem_nil, or_false] at hx
  rcases hx with rfl | rfl | rfl | rfl
  · exact kind_free hs
  · rw [show TL.tl (Part.t (.n o.v)) = intL o.v from tl_int o.v]; exact intL_free hs
  · rw [show TL.tl (Part.t (.n o.b)) = intL o.b from tl_int o.b]; exact intL_free hs
  · rw [show TL.tl (Part.t (.n o.e)) = intL o.e from tl_int o.e]; exact intL_free hs
theorem joinL_free {s : Nat} {S : List Nat} (hS : s ∉ S) : ∀ {ps : List (List Nat)}, (∀ p ∈ ps, s ∉ p) → s ∉ TL.joinL S ps
  | [], _ => by simp [TL.joinL]
  | [p], h => h p (List.mem_singleton.mpr rfl)
  | p :: q :: r, h => by
    show s ∉ p ++ (S ++ TL.joinL S (q :: r))
    rw [List.mem_append, List.mem_append]
    rintro (z | z | z)
    · exact h p List.mem_cons_self z
    · exact hS z
    · exact joinL_free hS (ps := q :: r) (fun x hx => h x (List.mem_cons_of_mem _ hx)) z
theorem row_free {o : Op} : 10 ∉ TL.tl (rowS o) := by
  unfold rowS rowT
  rw [TL.join_eq, TL.tl_join]
  refine joinL_free (by decide) fun p hp => ?_
  obtain ⟨x, hx, rfl⟩ := List.mem_map.mp hp
  exact part_free (by decide) x hx
theorem row_split (o : Op) : Txt.split (rowS o) " " = o.parts.map Part.t := TL.split_join (y := " ") (s := 32) (S := []) rfl (by decide +kernel) (by simp [Op.parts]) (part_free (by decide))
theorem page_split {ops : List Op} (h : ops ≠ []) : Txt.split (pageS ops) "\n" = ops.map rowS := by
  unfold pageS
  rw [if_neg h]
  refine TL.split_join (y := "\n") (s := 10) (S := []) rfl (by decide +kernel) (by simpa using h) fun p hp => ?_
  obtain ⟨o, _, rfl⟩ := List.mem_map.mp hp
  exact row_free
/-! ### read back -/
def numD : Option Int → PyData
  | some i => .int i
  | none => .none
def parseOpD (a : Str) : PyData := match Txt.split a " " with
  | [] => .tuple []
  | w :: ws => .tuple (.str w :: ws.map fun x => numD (pnum x))
def parseOpsD (a : Str) : PyData := if a = "-" then .tuple [] else .tuple ((Txt.split a "\n").map parseOpD)
theorem parse_row {o : Op} (h : o.ok) : parseOpD (rowS o) = o.dat := by
  unfold parseOpD
  rw [row_split]
  obtain ⟨h1, h2, h3⟩ := Op.small h
  show PyData.tuple (.str (kindS o.w) :: [numD (pnum (toString o.v)), numD (pnum (toString o.b)), numD (pnum (toString o.e))]) = _
  rw [pnum_int h1, pnum_int h2, pnum_int h3]
  rfl
theorem page_dash {ops : List Op} (h : ops ≠ []) : pageS ops ≠ "-" := by
  intro e
  have h1 := page_split h
  rw [e] at h1
  have h2 : Txt.split "-" "\n" = [("-" : Str)] := by decide +kernel
  rw [h2] at h1
  match ops, h with
  | o :: r, _ =>
    have h3 : rowS o = "-" := by rw [List.map_cons] at h1; injection h1 with h1 _; exact h1.symm
    have h4 := row_split o
    rw [h3, show Txt.split "-" " " = [("-" : Str)] by decide +kernel] at h4
    exact absurd (congrArg List.length h4) (by simp [Op.parts])
theorem parse_page {ops : List Op} (h : ∀ o ∈ ops, o.ok) : parseOpsD (pageS ops) = .tuple (ops.map Op.dat) := by
  unfold parseOpsD
  by_cases e : ops = []
  · subst e; rfl
  · rw [if_neg (page_dash e), page_split e, List.map_map]
    exact congrArg PyData.tuple (List.map_congr_left fun o ho => parse_row (h o ho))
theorem page_inj {as bs : List Op} (ha : ∀ o ∈ as, o.ok) (hb : ∀ o ∈ bs, o.ok) : pageS as = pageS bs ↔ as.map Op.dat = bs.map Op.dat := by
  constructor
  · intro e
    have h := parse_page ha
    rw [e, parse_page hb] at h
    injection h with h
    exact h.symm
  · intro e
    have : as = bs := by
      refine List.map_inj_right (f := Op.dat) (fun x y z => ?_) |>.mp e
      obtain ⟨w, v, b, e⟩ := x
      obtain ⟨w', v', b', e'⟩ := y
      unfold Op.dat at z
      injection z with z
      injection z with z1 z
      injection z with z2 z
      injection z with z3 z
      injection z with z4 _
      injection z1 with z1
      injection z2 with z2
      injection z3 with z3
      injection z4 with z4
      have : w = w' := by
        have : ∀ a b : Bool, kindS a = kindS b → a = b := by decide
        exact this _ _ z1
      dsimp only at z2 z3 z4
      rw [this, z2, z3, z4]
    rw [this]
end LB

namespace LB
open PySem PySem.Spec PyProof.Rows L2
/-! ### enumerate over a tuple -/
/-- the cell of an enumerate that has given nothing yet, drawing from the iterator at it -/
abbrev enO (it : Addr) : Obj := { cls := .type "enumerate", data := .fields #[.none, .bool false, .ref it, rawInt 0, .none, .none] }
theorem enum_meets {v : Value} {o : Obj} {G : Heap → Prop} (B : Begins v o G) :
    Meets (Builtin.«enumerate.__new__» ⟨[.type "enumerate", v], []⟩) fun _ R s => G s.heap ∧ R (.ok (.ret (.ref (s.heap.push o).objs.size))) { s with heap := (s.heap.push o).push (enO s.heap.objs.size) } :=
  .of_wp fun prog w A R s hs => by
    rcases s with ⟨hp, gs, dr, tk, os⟩
    rcases hs with ⟨hG, hR⟩
    have sub := sub_enumerate
    have it1 : ∀ {A' : Around} {E Q : Value → Shared → Prop}, Q (.ref hp.objs.size) ⟨hp.push o, gs, dr, tk, os⟩ → wpAny (model prog w) A' (pyIter v) Q E ⟨hp, gs, dr, tk, os⟩ := fun q =>
      B.iter prog w _ _ _ _ hG q
    wp_walk using it1
    refine wpAny_stack_any fun st => wpAny_pure ?_
    split
    next c _ _ _ _ _ =>
      cases (c == Value.type "enumerate") <;> (wp_walk using it1; exact ⟨_, rfl, hR⟩)
    next => wp_walk using it1; exact ⟨_, rfl, hR⟩
theorem enum_call {P : Program} {w : World} {A : Around} {E Q : Value → Shared → Prop} {s : Shared} {v : Value} {o : Obj} {G : Heap → Prop} (B : Begins v o G) (hG : G s.heap)
    (q : IsEnum ((s.heap.push o).push (enO s.heap.objs.size)) (s.heap.objs.size + 1) s.heap.objs.size 0 .none → Q (.ref (s.heap.objs.size + 1)) { s with heap := (s.heap.push o).push (enO s.heap.objs.size) }) :
    wpAny (model P w) A (call (.type "enumerate") [v]) Q E s := by
  refine callType_new F.called_enumerate (by decide) (F.typeCall_enumerate_1 _) (F.newCall_enumerate_1 _) (fun b => F.args_object_init_2 b _) F.entry_enumerate_new (enum_meets B) ⟨hG, ?_⟩
  have z : (s.heap.push o).objs.size = s.heap.objs.size + 1 := Heap.size_push ..
  have e : IsEnum ((s.heap.push o).push (enO s.heap.objs.size)) (s.heap.objs.size + 1) s.heap.objs.size 0 .none := by
    have := Heap.get?_push_size (s.heap.push o) (o := enO s.heap.objs.size) rfl
    rwa [z] at this
  show _ ∧ _
  rw [z]
  exact ⟨⟨_, e, rfl⟩, q e⟩
/-- the tuple at a, each item in a new pair with its place -/
def IteT (K : PySem.W.Frag) (a : Addr) : It :=
  ⟨fun i H => ∃ (xs : List V) (x : V), SqT K H a xs ∧ xs[i]? = some x, fun i H v H' => ∃ T x, v = .ref T ∧ H T = none ∧ H' = upd H T (.tup [.int (i : Nat), x]) ∧ (∀ xs, SqT K H a xs → xs[i]? = some x), fun i H => ∃ xs : List V, SqT K H a xs ∧ i = xs.length⟩
theorem enum_not {h : Heap} {e it a : Addr} {i : Int} {old : Value} {items : Array Value} (he : IsEnum h e it i old) (ht : h.IsTuple a items) : e ≠ a := by
  rintro rfl
  obtain ⟨o, ho, hc, _⟩ := ht
  have h1 := Option.some.inj (ho.symm.trans he)
  rw [h1] at hc
  exact absurd (Value.type.inj hc) (by decide)
theorem iter_not {h : Heap} {it a : Addr} {i : Nat} {items : Array Value} (hi : h.IsTupleIter it a i) (ht : h.IsTuple a items) : a ≠ it := by
  rintro rfl
  obtain ⟨o, ho, hc, _⟩ := ht
  obtain ⟨o2, ho2, hc2, _⟩ := hi
  have h1 := Option.some.inj (ho.symm.trans ho2)
  rw [h1, hc2] at hc
  exact absurd (Value.type.inj hc) (by decide)
theorem turn_enT {P : Program} {w : World} {K : PySem.W.Frag} {elts : List Expr} {kk : Nat} {tpos : Pos} (a e it : Addr) :
    Turn P w K (.Tuple elts kk tpos) (IteT K a) [e, it] e fun i h => (∃ old, IsEnum h e it ((i : Nat) : Int) old) ∧ h.IsTupleIter it a i ∧ e ≠ it := by
  have two : ∀ b, b ∈ [e, it] → b = e ∨ b = it := fun b hb => by simpa using hb
  refine ⟨List.mem_cons_self, ?_, ?_, ?_, ?_, ?_⟩
  · rintro i h ⟨⟨old, he⟩, ⟨o, ho, _, hd⟩, _⟩ b hb
    rcases two b hb with rfl | rfl
    · exact ⟨_, he, fun v q => nomatch q⟩
    · exact ⟨o, ho, fun v q => by rw [hd] at q; cases q⟩
  · rintro i h h' ⟨⟨old, he⟩, hi, hn⟩ k
    exact ⟨⟨old, k e (by simp) _ he⟩, hi.at fun o q => k it (by simp) o q, hn⟩
  · rintro X rfl rfl rfl hc i pins s σ H E I hf ⟨⟨old, he⟩, hi, hn⟩ ⟨xs, x, hq, hx⟩
    obtain ⟨its, rv, ht, _⟩ := I.tuple hq
    have ht : s.heap.IsTuple a its.toArray := ht
    obtain ⟨u, hu, ru⟩ := rv.get hx
    have D := Draws.tuple (prog := X.prog) (w := X.w) (A := X.A.in1) (I.ok.hd hc) it a (iter_not hi ht) its.toArray
    have lt : i < its.toArray.size := by
      have : i < its.length := by
        by_cases z : i < its.length
        · exact z
        · rw [List.getElem?_eq_none (by omega)] at hu; cases hu
      simpa using this
    have le := Heap.lt_size he
    have li : it < s.heap.objs.size := let ⟨_, q, _⟩ := hi; Heap.lt_size q
    refine wpAny_pyNext_enum_itemD D he ⟨hi, ht⟩ lt hn (fun z => ?_) fun u2 h' tk hP ho hs hT hz hk => ?_
    · rcases List.mem_cons.mp z with z | z
      · exact hn z
      · exact enum_not he ht (List.mem_singleton.mp z)
    have eu : u2 = u := by
      have h1 : its.toArray[i]? = some u2 := hP
      rw [List.getElem?_toArray, hu] at h1
      exact (Option.some.inj h1).symm
    subst eu
    refine ⟨_, rfl, wpAny_letOwnedTupleGo_enum (s := { s with heap := h', toks := tk + 1 }) ho fun h2 he2 sb => ?_⟩
    have tn : ∀ b, b < s.heap.objs.size → b ≠ s.heap.objs.size := fun b hb => Nat.ne_of_lt hb
    have hT2 := (sb.2 _ (tn e le).symm).trans hT
    have ok : ObjOk X.prog X.w (upd H s.heap.objs.size (.tup [.int (i : Nat), x])) h2 s.heap.objs.size (.tup [.int (i : Nat), x]) :=
      ⟨(by decide : 2 ≤ sizeLine), [.int i tk, u2], .cons ⟨_, rfl⟩ (.cons ru .nil), ⟨_, hT2, rfl, _, rfl⟩⟩
    have off : ∀ b, b ∉ [e, it] → b ≠ e ∧ b ≠ it := fun b hb => ⟨fun z => hb (by simp [z]), fun z => hb (by simp [z])⟩
    have J := I.turnedNew (t' := tk + 1) (ch := [e, it]) (fun b ob hb q => (sb.2 b (off b hb).1).trans (hk b ob (off b hb).1 (off b hb).2 q)) hf (Nat.le_refl _) ok
    refine ⟨.ref s.heap.objs.size, _, J, rfl, ⟨_, x, rfl, I.hok.fresh (Nat.le_refl _), rfl, fun ys hy => by rw [I.tuple_inj hy hq]; exact hx⟩, ⟨⟨u2, ?_⟩, hs.1.at fun o q => (sb.2 it (Ne.symm hn)).trans q, hn⟩, fun b hb => ?_⟩
    · rw [show ((i + 1 : Nat) : Int) = (i : Int) + 1 by omega]
      exact he2
    · have lb : b < s.heap.objs.size := by rcases two b hb with rfl | rfl <;> assumption
      rw [upd_ne (tn b lb)]
      exact (hf b hb).1
  · rintro X rfl rfl rfl hc i pins s σ H E I hf ⟨⟨old, he⟩, hi, hn⟩ ⟨xs, hq, hx⟩
    obtain ⟨its, rv, ht, _⟩ := I.tuple hq
    have ht : s.heap.IsTuple a its.toArray := ht
    obtain ⟨f0, f1, f2, f3, f4, f5⟩ := hf it (by simp)
    have hl : i = its.toArray.size := by rw [hx, rv.length, List.size_toArray]
    subst hl
    have D := Draws.tuple (prog := X.prog) (w := X.w) (A := X.A.in1) (I.ok.hd hc) it a (iter_not hi ht) its.toArray
    exact wpAny_pyNext_enum_endD D he ⟨hi, ht⟩ fun h' eb => ⟨rfl, I.turned (t' := s.toks) (fun b o hb q => eb b o hb q) f0 f1 f3 f4 f5⟩
  · rintro A i s Q E ⟨⟨_, he⟩, _⟩ h
    exact wpAny_pyIter_enum he h

/-- for i, x in enumerate(e), e a tuple -/
def iEnumT (K : PySem.W.Frag) (ta : TA) : TI := fun σ H R => ta σ H fun vs H1 => ∃ a xs, vs = [.ref a] ∧ SqT K H1 a xs ∧ R (IteT K a) H1
theorem pi_enumT {X : Cx} {e : Expr} {ta : TA} {p pos tpos : Pos} {elts : List Expr} {kk : Nat} (hg : Gl X "enumerate") (hm : X.mg "enumerate" = none) (ha : PA X [e] ta) (st : starEach [e] X.env = [(false, eval e X.env)] := by rfl) :
    PI X (.Tuple elts kk tpos) (.Call (.Name "enumerate" p) [e] [] pos) (iEnumT X.K ta) := by
  constructor
  intro pins s σ H R I h
  refine Call_ (ld_blt I hg hm boot_enumerate (PyProof.Rows.callWith_type1 (thn (ha.run pos pins s σ H _ I h) ?_) st rfl))
  rintro us s1 ⟨vs, H1, I1, r1, a, xs, rfl, hq, q⟩
  obtain ⟨its, rv, ht, _⟩ := I1.tuple hq
  have ht : s1.heap.IsTuple a its.toArray := ht
  rw [Vals.ref1 r1]
  refine enum_call (begins_tuple a its.toArray) ht fun he => wpAny_pyIter_enum he ?_
  have k : ∀ b o, s1.heap.get? b = some o → ((s1.heap.push { cls := .type "tuple_iterator", data := .fields #[.ref a, .int 0 0] }).push (enO s1.heap.objs.size)).get? b = some o := fun b o e =>
    Heap.get?_push_of_some _ (Heap.get?_push_of_some _ e)
  have hi : ((s1.heap.push { cls := .type "tuple_iterator", data := .fields #[.ref a, .int 0 0] }).push (enO s1.heap.objs.size)).IsTupleIter s1.heap.objs.size a 0 :=
    ⟨_, Heap.get?_push_of_some _ (Heap.get?_push_size _ rfl), rfl, rfl⟩
  refine ⟨s1.heap.objs.size + 1, [s1.heap.objs.size + 1, s1.heap.objs.size], _, _, H1, rfl, I1.kept (t' := s1.toks) k, turn_enT a (s1.heap.objs.size + 1) s1.heap.objs.size, ⟨⟨.none, he⟩, hi, Nat.succ_ne_self _⟩, fun b hb => ?_, q⟩
  have le : s1.heap.objs.size ≤ b := by
    have z : b = s1.heap.objs.size + 1 ∨ b = s1.heap.objs.size := by simpa using hb
    rcases z with rfl | rfl
    · exact Nat.le_succ _
    · exact Nat.le_refl _
  exact I1.fpOk le (I1.hok.fresh le)
/-- .. a list or a tuple -/
def iEnA (K : PySem.W.Frag) (ta : TA) : TI := fun σ H R => iEnum K ta σ H R ∨ iEnumT K ta σ H R
theorem pi_enA {X : Cx} {e : Expr} {ta : TA} {p pos tpos : Pos} {elts : List Expr} {kk : Nat} (hg : Gl X "enumerate") (hm : X.mg "enumerate" = none) (ha : PA X [e] ta) (st : starEach [e] X.env = [(false, eval e X.env)] := by rfl) :
    PI X (.Tuple elts kk tpos) (.Call (.Name "enumerate" p) [e] [] pos) (iEnA X.K ta) := by
  constructor
  intro pins s σ H R I h
  rcases h with h | h
  · exact (pi_enum hg hm ha st).run pins s σ H R I h
  · exact (pi_enumT hg hm ha st).run pins s σ H R I h
/-! ### sets of ints: sorted, any number of members -/
theorem sorted_S {P : Program} {w : World} {A : Around} {E Q : Value → Shared → Prop} {s : Shared} {a : Addr} {S : Int → Bool} {n : Nat} (R : SetR w s.heap a S n) (hh : A.handled = none)
    (q : ∀ (s' : Shared) (p : Addr) (out : List Value) (c : Nat) (ns : List Int), (∀ b o, s.heap.get? b = some o → s'.heap.get? b = some o) → s'.gens = s.gens ∧ s'.os = s.os ∧ s.heap.objs.size ≤ p →
      s'.heap.get? p = some (seqObj "list" out.toArray c) → IntsAre out ns → ns.Pairwise (· < ·) → (∀ k, k ∈ ns ↔ S k = true) → ns.length = n → Q (.ref p) s') :
    wpAny (model P w) A (call (.builtin "sorted") [.ref a]) Q E s := by
  rcases R with ⟨o, es, ep, t, ho, hx, hd, good, nd, mem, small, fit, hn, ris, led⟩
  refine Calls.call_function_entry (b := Builtin.«sorted») kind_sorted plain_sorted entry_sorted (args_sorted1 _) ?_
  unfold Builtin.«sorted»
  refine wpAny_bind (m := checkCount "sorted" 1 1 _) (wpAny_pure (wpAny_bind (collect_set (A := A.in1) hh ⟨o, ho, hx.1, hd⟩ fit small ris led fun s1 vs keep grow eg eo pm => ?_)))
  have len : vs.length = n := by rw [pm.length_eq, List.length_map, Array.length_toList, hn]
  have few : vs.length ≤ sizeLine := by
    have : n < scanBound := by rw [← hn]; exact small
    have : scanBound = 4096 := rfl
    exact Nat.le_trans (by omega : vs.length ≤ 4096) (by decide)
  have hI : IntsAre vs (vs.map SrtO.iv) := SrtO.ints_iv fun v hv => by
    obtain ⟨e, he, rfl⟩ := List.mem_map.mp (pm.mem_iff.mp hv)
    obtain ⟨k, tk, h1, _⟩ := good e he
    exact ⟨k, tk, h1⟩
  have keys : (vs.map SrtO.iv).Perm (es.toList.map keyOf) := by
    have h1 := pm.map SrtO.iv
    rwa [List.map_map, show (SrtO.iv ∘ fun e : Int × Value => e.2) = keyOf from funext fun e => by obtain ⟨i, v⟩ := e; cases v <;> rfl] at h1
  refine wpAny_bind (wpAny_newList ?_ few)
  have hl : (s1.heap.push (seqObj "list" vs.toArray 0)).get? s1.heap.objs.size = some (seqObj "list" vs.toArray 0) := Heap.get?_push_size _ rfl
  refine wpAny_bind (wpAny_holding (wpAny_call_entry slot_list_sort ⟨_, hl, rfl⟩ entry_list_sort (SrtO.list_sort_ord SrtO.swo_int hl few (fun h2 => SrtO.ints_sortable hI h2) fun out h1 h2 => ⟨_, rfl, ?_⟩) (args_list_sort _)))
  obtain ⟨k1, k2, k3⟩ := SrtO.ints_out hI h1 h2
  obtain ⟨c, hc⟩ := sortedHeap_at (vs := vs) (out := out.toArray) hl
  have pn := k2.trans keys
  refine wpAny_pure ⟨_, rfl, q _ s1.heap.objs.size out c (out.map SrtO.iv) (fun b u e => ?_) ⟨eg, eo, grow⟩ hc k1 (lt_of_le_nodup _ k3 (pn.nodup_iff.mpr nd)) (fun k => by rw [pn.mem_iff, ← mem k]) (by rw [pn.length_eq, List.length_map, Array.length_toList, hn])⟩
  have e1 := keep b u e
  have lt := Heap.lt_size e1
  show (sortedHeap _ s1.heap.objs.size vs out.toArray).get? b = some u
  rw [sortedHeap_old (Nat.ne_of_lt lt) (by rw [size_push']; exact Nat.lt_succ_of_lt lt)]
  exact Heap.get?_push_of_some _ e1
/-- sorted(found) -/
def rSortS (w : World) : List V → Hp → VK → Prop := fun vs H Q => ∃ (a : Addr) (S : Int → Bool) (n : Nat), vs = [V.ref a] ∧ H a = some (SetO w a S n) ∧
  ∀ (ns : List Int) (p : Addr), ns.Pairwise (· < ·) → (∀ k : Int, k ∈ ns ↔ S k = true) → ns.length = n → H p = none → Q (.ref p) (upd H p (.lst (ns.map V.int)))
theorem cr_sortS {X : Cx} (hc : X.calm = true) : CallR X (.builtin "sorted") (rSortS X.w) := by
  rintro pins s σ H vs us Q I r ⟨a, S, n, rfl, ha, q⟩
  have R := setO_get I ha
  have nb : n < scanBound := by
    obtain ⟨_, es, _, _, _, _, _, _, _, _, small, _, hn, _⟩ := R
    rw [← hn]; exact small
  rw [Vals.ref1 r]
  refine sorted_S R (I.ok.hd hc) fun s' p out c ns k e0 hg hi hs hm hl => ?_
  obtain ⟨eg, eo, hp⟩ := e0
  have hn : H p = none := I.hok.fresh hp
  have few : (ns.map V.int).length ≤ sizeLine := by
    rw [List.length_map, hl]
    have : scanBound = 4096 := rfl
    exact Nat.le_trans (by omega : n ≤ 4096) (by decide)
  rcases s' with ⟨hp', g', d', tk', os'⟩
  have eo : os' = s.os := eo
  subst eo
  have J : Inv X pins σ (upd H p (.lst (ns.map V.int))) { s with heap := hp', gens := g', drawn := d', toks := tk' } :=
    I.call (ch := []) (Un.laid k hp hn) (I.hok.laid k hp ⟨few, out, c, vals_of_ints hi, hg⟩) (by rw [show g' = s.gens from eg]; exact I.bare) fun _ z => nomatch z
  exact ⟨.ref p, _, J, rfl, q ns p hs hm hl hn⟩
end LB

namespace LB
open PySem PySem.Spec PyProof.Rows L2
open PpSet (eval_SetComp codeAny_compStart_set compLoopS_any newSet_ok)
/-! ### set comprehensions of ints -/
abbrev setO0 (w : World) : Obj := { cls := .type "set", dict := none, data := .set #[] 0 (.fresh 0 0 (!w.params.followText "set-order")) }
abbrev addS (S : Int → Bool) (k : Int) : Int → Bool := fun j => S j || decide (j = k)
abbrev addN (S : Int → Bool) (n : Nat) (k : Int) : Nat := if S k = true then n else n + 1
/-- {e for t in it if ..}, e an int; D: the new set -/
def tSi (w : World) (wi : TI) (g : TG) (tt : TT) (te : TE) (vs : List Nat) : TE := fun σ H Q => wi σ H fun J H1 => ∀ D, H1 D = none → ∃ W : Nat → Nat → Hp → Prop, (∃ m, W 0 m (upd H1 D (SetO w D (fun _ => false) 0))) ∧
  ∀ i m H, W i m H → (J.stop i H ∧ Q (.ref D) H) ∨ (J.go i H ∧ ∃ Nx : Hp → Prop, (∀ H', Nx H' → ∃ m', m' < m ∧ W (i + 1) m' H') ∧
    ∀ x H', J.yld i H x H' → g x (wipe σ vs) H' fun σ2 H2 => wipe σ2 vs = wipe σ vs ∧ tt σ2 H2 fun b H3 => if b = true then te σ2 H3 fun y H4 => ∃ (k : Int) (S : Int → Bool) (n : Nat), y = .int k ∧ H4 D = some (SetO w D S n) ∧ n + 1 < scanBound ∧ Nx (upd H4 D (SetO w D (addS S k) (addN S n k))) else Nx H3)
theorem si_add {X : Cx} {pins : List (Addr × Obj)} {σ : L2.St} {H : Hp} {s : Shared} {E : Value → Shared → Prop} {D : Addr} {S : Int → Bool} {n : Nat} {k : Int} {u : Value} {Q : Value → Shared → Prop}
    (I : L2.Inv X pins σ H s) (hD : H D = some (SetO X.w D S n)) (room : n + 1 < scanBound) (ru : RelV (.int k) u) (q : ∀ s', L2.Inv X pins σ (upd H D (SetO X.w D (addS S k) (addN S n k))) s' → Q .none s') :
    wpAny (model X.prog X.w) X.A (call (.builtin "set.add") [.ref D, u]) Q E s := by
  rcases ru with ⟨t, rfl⟩
  refine setR_add (setO_get I hD) room fun h' sb new => q _ (I.write (e := D) (t' := s.toks + 1) (by rw [hD]; trivial) (.inl rfl) (fun b v nb e => (sb.2 b nb).trans e) ?_ (setO_new new))
  rcases new with ⟨o, _, _, _, ho, _⟩
  exact ⟨o, ho⟩
section
variable {X : Cx} {elt tg iter : Expr} {ifs : List Expr} {scope : Scope} {own : List (Str × Nat)} {pos : Pos} {wi : TI} {g : TG} {tt : TT} {te : TE}
/-- what a comprehension's parts are, in its block -/
structure Parts (X : Cx) (tg elt : Expr) (ifs : List Expr) (scope : Scope) (g : TG) (tt : TT) (te : TE) : Prop where
  tg : ∀ (s : Shared) (H : Hp) (C : Addr) (cl : List (Str × Addr)) (fp : List Addr), PG (X.blk s H scope (compEnvC scope cl C X.env) fp) tg g
  ifs : ∀ (s : Shared) (H : Hp) (C : Addr) (cl : List (Str × Addr)) (fp : List Addr), PTs (X.blk s H scope (compEnvC scope cl C X.env) fp) ifs tt
  elt : ∀ (s : Shared) (H : Hp) (C : Addr) (cl : List (Str × Addr)) (fp : List Addr), PE (X.blk s H scope (compEnvC scope cl C X.env) fp) elt te
theorem pe_si (hc : X.calm = true) (hN : X.N.Nodup) (hi : PI X tg iter wi) (ok : BlkOk X.N X.env.scope scope own) (T0 : Parts X tg elt ifs scope g tt te)
    (hs : ∀ x, foldedSetIterable iter X.env x = pure x := by intro _; rfl) : PE X (.SetComp elt [⟨tg, iter, ifs, 0⟩] scope pos) (tSi X.w wi g tt te (own.map (·.2))) := by
  constructor
  intro pins s σ H Q I h
  rw [eval_SetComp]
  have fr : ∀ y ∈ scope.names, y.2 = .free → ∃ c, X.env.cells.lookup y.1 = some c := fun y hy e => by
    have := ok.free y hy e
    exact I.ok.has _ this
  refine wpAny_comprehension_free (use := none) rfl hs (closure_ok fr) ok.kind (fun y hy e => e ▸ ok.uniq y hy) (thn (hi.run pins s σ H _ I h) fun xv s1 hx => thn hx ?_)
  rintro itv s2 ⟨it, fp, tn, J, H2, rfl, I2, T, st2, f2, q⟩
  refine newSet_ok (newEnv_comp ?_)
  -- the new set, at D
  generalize hD : s2.heap.objs.size = D
  rcases q D (I2.hok.fresh (Nat.le_of_eq hD)) with ⟨W, ⟨m0, w0⟩, turn⟩
  generalize e3 : ({ s2 with heap := s2.heap.push (setO0 X.w) } : Shared) = s3
  have h3 : s3.heap = s2.heap.push (setO0 X.w) := by rw [← e3]
  have I3 : L2.Inv X pins σ (upd H2 D (SetO X.w D (fun _ => false) 0)) s3 := by
    subst e3 hD
    exact I2.laid (t' := s2.toks) (fun b o e => Heap.get?_push_of_some _ e) (Nat.le_refl _) (setO_new (setR_fresh X.w))
  have old : ∀ b ∈ fp, b < s2.heap.objs.size := fun b hb => let ⟨_, e, _⟩ := T.obj _ _ st2 b hb; Heap.lt_size e
  have st3 : tn 0 s3.heap := T.keep _ _ _ st2 fun b _ o e => h3 ▸ Heap.get?_push_of_some _ e
  generalize e4 : upd H2 D (SetO X.w D (fun _ => false) 0) = H3 at I3 w0
  have f3 : ∀ b ∈ fp, FpOk X pins H3 b ∧ b < s3.heap.objs.size := fun b hb => by
    have lt := old b hb
    subst e4 hD
    exact ⟨⟨(upd_ne (Nat.ne_of_lt lt)).trans (f2 b hb).1, (f2 b hb).2⟩, by rw [h3, Heap.size_push]; exact Nat.lt_succ_of_lt lt⟩
  have I4 := block_start I3 ok hN f3
  have pg := T0.tg s3 H3 s3.heap.objs.size (cellsFrom (s3.heap.objs.size + 1) scope.names (cloFrom X.env.cells scope.names [])) fp
  have pt := T0.ifs s3 H3 s3.heap.objs.size (cellsFrom (s3.heap.objs.size + 1) scope.names (cloFrom X.env.cells scope.names [])) fp
  have pe := T0.elt s3 H3 s3.heap.objs.size (cellsFrom (s3.heap.objs.size + 1) scope.names (cloFrom X.env.cells scope.names [])) fp
  show codeAny _ _ (.compStart (.SetComp elt [⟨tg, iter, ifs, 0⟩] scope pos) 0 (.ref it) (.ref D) (compEnvC scope (cellsFrom (s3.heap.objs.size + 1) scope.names (cloFrom X.env.cells scope.names [])) s3.heap.objs.size X.env)) (compPost (model X.prog X.w) X.A X.xe none (EP X pins σ Q) (.ref D) s3.heap.objs.size) { s3 with heap := pushCells (s3.heap.push { cls := .type "dict", data := .dict #[] }) scope.names }
  generalize e5 : compEnvC scope (cellsFrom (s3.heap.objs.size + 1) scope.names (cloFrom X.env.cells scope.names [])) s3.heap.objs.size X.env = ce at I4 pg pt pe ⊢
  have cL : ce.locals = s3.heap.objs.size := by rw [← e5]; rfl
  generalize e6 : ({ s3 with heap := pushCells (s3.heap.push { cls := .type "dict", data := .dict #[] }) scope.names } : Shared) = s4 at I4 ⊢
  have st4 : tn 0 s4.heap := T.keep _ _ _ st3 fun b _ o e => by subst e6; exact pushCells_keeps _ _ _ _ (Heap.get?_push_of_some _ e)
  have stat : ∀ {σ' : L2.St} {H' : Hp} {s' : Shared}, L2.Inv (X.blk s3 H3 scope ce fp) [] σ' H' s' → (∀ b ∈ fp, H' b = none) → ∀ b ∈ fp, FpOk (X.blk s3 H3 scope ce fp) [] H' b := fun J' hn b hb =>
    ⟨hn b hb, (J'.ok.exf b hb).1, J'.ok.exfs b hb, .inl hb, fun x c e => (J'.ok.exf b hb).2 x c e, fun p hp => by cases hp⟩
  -- the loop
  have loop : codeAny (model X.prog X.w) X.A (.compLoop (.SetComp elt [⟨tg, iter, ifs, 0⟩] scope pos) 0 (.ref it) (.ref D) ce) (compPost (model X.prog X.w) X.A X.xe none (EP X pins σ Q) (.ref D) s3.heap.objs.size) s4 := by
    refine compLoopS_any (fun n s' => ∃ i H', L2.Inv (X.blk s3 H3 scope ce fp) [] (wipe σ (own.map (·.2))) H' s' ∧ tn i s'.heap ∧ (∀ b ∈ fp, H' b = none) ∧ W i n H') ?_ m0 ⟨0, H3, I4, st4, fun b hb => (f3 b hb).1.1, w0⟩
    rintro n s5 ⟨i, H5, I5, st5, n5, w5⟩
    rcases turn i n H5 w5 with ⟨stop, qq⟩ | ⟨go, Nx, hNx, step⟩
    · refine thnF (T.done (X.blk s3 H3 scope ce fp) rfl rfl rfl hc i [] s5 _ H5 (fun _ _ => False) I5 (stat I5 n5) st5 stop) ?_
      rintro r s6 ⟨rfl, I6⟩
      have I7 : L2.Inv X pins σ H5 s6 := I3.call' (ch := fp) I6.os I6.base I6.hok I6.bare fun b hb => let z := (f3 b hb).1.2; ⟨z.2.2.1, z.1, z.2.2.2.1, z.2.2.2.2⟩
      have nC : H5 s3.heap.objs.size = none := cL ▸ I6.free
      rcases I6.loc with ⟨m, hn, _⟩
      have hn : s6.heap.Ns ce.locals m := hn
      rw [cL] at hn
      have f := I3.fpOk (Nat.le_refl _) nC
      exact ⟨m, hn, fun h'' sb => ⟨.ref D, H5, I7.turned (t' := s6.toks) (fun b o nb e => (sb.2 b nb).trans e) f.1 f.2.1 f.2.2.2.1 f.2.2.2.2.1 f.2.2.2.2.2, rfl, qq⟩⟩
    · refine thnF (T.item (X.blk s3 H3 scope ce fp) rfl rfl rfl hc i [] s5 _ H5 (fun _ _ => False) I5 (stat I5 n5) st5 go) ?_
      rintro r s6 ⟨u, rfl, h6⟩
      refine thnF h6 ?_
      rintro _ s7 ⟨x, H7, I7, r7, y7, st7, n7⟩
      refine thnF (pg.run _ s7 _ H7 x u _ (I7.pinned (stat I7 n7) (T.obj _ _ st7)) r7 (step x H7 y7)) ?_
      rintro _ s8 ⟨σ8, H8, I8, hw8, q8⟩
      -- behind a turn
      have fin : ∀ {s' : Shared} {H' : Hp}, L2.Inv (X.blk s3 H3 scope ce fp) ([] ++ pinsAt fp s7.heap) σ8 H' s' → Nx H' → ∃ m, m < n ∧ ∃ i H', L2.Inv (X.blk s3 H3 scope ce fp) [] (wipe σ (own.map (·.2))) H' s' ∧ tn i s'.heap ∧ (∀ b ∈ fp, H' b = none) ∧ W i m H' := fun {s' H'} J' nx => by
        rcases hNx H' nx with ⟨m', lt, w'⟩
        have held : ∀ b ∈ fp, ∀ o, s7.heap.get? b = some o → s'.heap.get? b = some o ∧ H' b = none := fun b hb o e => by
          have z := J'.pin (b, o) (List.mem_append_right _ (List.mem_append_right _ (mem_pinsAt hb e)))
          exact ⟨z.1, z.2.1⟩
        refine ⟨m', lt, i + 1, H', (J'.unpinned (pins := [])).weak (by rw [← hw8, wipe_length]) (fun j v e => (wipe_some (hw8 ▸ e)).1), T.keep _ _ _ st7 fun b hb o e => (held b hb o e).1, fun b hb => ?_, w'⟩
        rcases T.obj _ _ st7 b hb with ⟨o, e, _⟩
        exact (held b hb o e).2
      refine thnF (pt.run _ s8 σ8 H8 _ I8 q8) ?_
      rintro (_ | _) s9 ⟨H9, I9, q9⟩
      · simp only [Bool.false_eq_true, if_false] at q9 ⊢
        exact fin I9 q9
      · simp only [if_true] at q9 ⊢
        refine thnF (pe.run _ s9 σ8 H9 _ I9 q9) ?_
        rintro z s10 ⟨yv, H10, I10, r10, k, S0, n0, rfl, hD10, hz, nx⟩
        exact si_add (X := X.blk s3 H3 scope ce fp) I10 hD10 hz r10 fun s11 I11 => fin I11 nx
  exact codeAny_compStart_set loop (T.self X.A 0 _ _ _ st4 loop)
end
end LB

namespace LB
open PySem PySem.Spec PyProof.Rows L2
/-! ### set(xs), xs a list of ints -/
theorem init_setL {P : Program} {w : World} {A : Around} {E : Value → Shared → Prop} {s : Shared} {l S : Addr} {items : Array Value} {ns : List Int} (hh : A.handled = none) (hl : s.heap.IsList l items) (hi : IntsAre items.toList ns) (few : ns.length + 1 < scanBound)
    (hS : s.heap.get? S = some (setO0 w)) (lt : l < S) (sz : s.heap.objs.size = S + 1) {R : PySem.Fin → Shared → Prop}
    (q : ∀ (h' : Heap) (tk c : Nat), SetR w h' S (fun j => decide (j ∈ ns)) c → c ≤ ns.length → (∀ b o, b ≠ S → s.heap.get? b = some o → h'.get? b = some o) → R (.done (.ret .none)) { s with heap := h', toks := tk }) :
    wpAny (model P w) A (Builtin.«set.__init__» ⟨[.ref S, .ref l], []⟩) R E s := by
  have n0 : items.size = ns.length := by
    have := IntsAre.length hi
    rwa [Array.length_toList] at this
  rcases hl with ⟨⟨oc, od, dt, sl⟩, ho, hc, nl, hd⟩
  have hc : oc = .type "list" := hc
  have hd : dt = .seq items nl := hd
  subst hc hd
  have hT : s.TypeIs (.ref S) "set" := ⟨_, hS, rfl⟩
  have s1 := F.sub_list_set
  have s2 := F.sub_list_frozenset
  have ne : (Value.type "list" == Value.type "dict") = false := by decide
  have il : s.heap.IsList l items := ⟨_, ho, rfl, nl, rfl⟩
  rcases s with ⟨hp, gs, dr, tk, os⟩
  unfold Builtin.«set.__init__» noKeywords Builtin.Frozenset.updateFrom
  generalize hPI : pyIter = PI
  wp_walk
  subst hPI
  refine wpAny_pyIter_list il (wpAny_bind (wpAny_runValue ?_))
  have zI : (Heap.push hp { cls := .type "list_iterator", data := .fields #[.ref l, .int 0 0] }).objs.size = hp.objs.size + 1 := Heap.size_push ..
  have sz : hp.objs.size = S + 1 := sz
  have lS : l ≠ S := Nat.ne_of_lt lt
  have lI : l ≠ hp.objs.size := by
    rw [sz]
    exact Nat.ne_of_lt (Nat.lt_succ_of_lt lt)
  have SI : S ≠ hp.objs.size := by
    rw [sz]
    exact Nat.ne_of_lt (Nat.lt_succ_self _)
  have vals : ∀ (i : Nat) (v : Value), items[i]? = some v → ∃ k t, ns[i]? = some k ∧ v = .int k t := fun i v e => by
    have li : i < ns.length := by
      rw [← n0]
      exact (Array.getElem?_eq_some_iff.mp e).1
    rcases IntsAre.int_at hi i v (by rwa [Array.getElem?_toList]) with ⟨t, rfl⟩
    exact ⟨ns[i], t, List.getElem?_eq_getElem li, by rw [List.getD_eq_getElem?_getD, List.getElem?_eq_getElem li]; rfl⟩
  have off : ∀ b, b ∈ [hp.objs.size, l] → b ≠ S := fun b hb => by
    rcases List.mem_cons.mp hb with rfl | hb
    · exact Ne.symm SI
    · rw [List.mem_singleton.mp hb]; exact lS
  refine set_update_ints (Walks.list (by first | exact hh | simp [hh]) hp.objs.size l lI items).toS S (fun z => off S z rfl) ns n0 few vals (items.size - 0) 0 _ (by omega) (Nat.zero_le _) ⟨⟨_, Heap.get?_push_size _ rfl, rfl, rfl⟩, il.push _⟩
    ⟨0, Nat.le_refl 0, setR_new_at (Heap.get?_push_of_some _ hS)⟩ ?_
  rintro ⟨h', g2, d', tk', os'⟩ c hm hc hR
  have e1 : g2 = gs := hm.gens
  have e2 : d' = dr := hm.drawn
  have e3 : os' = os := hm.os
  subst e1 e2 e3
  refine wpAny_pure (wpAny_pure (q h' tk' c hR (n0 ▸ hc) fun b o nb e => hm.heap b o ?_ (Heap.get?_push_of_some _ e)))
  have lb : b ≠ hp.objs.size := Nat.ne_of_lt (Heap.lt_size e)
  simp only [List.mem_cons, List.not_mem_nil, or_false, not_or]
  exact ⟨nb, lb⟩
theorem call_setL {P : Program} {w : World} {A : Around} {E Q : Value → Shared → Prop} {s : Shared} {l : Addr} {items : Array Value} {ns : List Int} (hh : A.handled = none) (hl : s.heap.IsList l items) (hi : IntsAre items.toList ns) (few : ns.length + 1 < scanBound)
    (q : ∀ (h' : Heap) (tk c : Nat), SetR w h' s.heap.objs.size (fun j => decide (j ∈ ns)) c → c ≤ ns.length → (∀ b o, s.heap.get? b = some o → h'.get? b = some o) → Q (.ref s.heap.objs.size) { s with heap := h', toks := tk }) :
    wpAny (model P w) A (call (.type "set") [.ref l]) Q E s := by
  rcases F.called_set.mro with ⟨mc, mt, hmro⟩
  have f1 := F.called_set.made
  have f2 := F.called_set.sub
  have f3 := F.called_set.notType
  have f4 := F.called_set.canCreate
  have f5 := F.typeCall_set_1 (.ref l)
  have lt : l < s.heap.objs.size := let ⟨_, e, _⟩ := hl; Heap.lt_size e
  refine wpAny_call (codeAny_of_tree (show wpAny _ _ (callAny (.type "set") _) _ _ _ from wpAny_pure ⟨Code.quiet_builtin _ (by decide +kernel), codeAny_builtin F.entry_type_call ?_⟩))
  rw [Around.under_plain (weight_type_call_type "set" [.ref l] []) rfl]
  repeat (any_goals (first | assumption | wp_step))
  refine codeAny_mono (code_set_led1 (.ref l) (E := E) (Q₁ := fun v s1 => v = .ref s.heap.objs.size ∧ s1 = { s with heap := s.heap.push (setO0 w) }) ⟨rfl, rfl⟩) ?_
  rintro (e | (v | _ | _ | _)) s1 hr
  all_goals first
    | exact hr
    | exact hr.elim
    | skip
  rcases hr with ⟨rfl, rfl⟩
  have hS : (s.heap.push (setO0 w)).get? s.heap.objs.size = some (setO0 w) := Heap.get?_push_size _ rfl
  have hT : Shared.TypeIs { s with heap := s.heap.push (setO0 w) } (.ref s.heap.objs.size) "set" := ⟨_, hS, rfl⟩
  have f6 := F.called_set.init.lookup
  have f7 := F.called_set.init.bind (.ref s.heap.objs.size)
  repeat (any_goals (first | assumption | wp_step))
  refine codeAny_mono (codeAny_call_builtin (R := wants (fun r s2 => r = .none ∧ ∃ h' tk c, s2 = { s with heap := h', toks := tk } ∧ SetR w h' s.heap.objs.size (fun j => decide (j ∈ ns)) c ∧ c ≤ ns.length ∧ ∀ b o, s.heap.get? b = some o → h'.get? b = some o) E)
    F.called_set.init.plain F.entry_set_init (check_set_init_1 hT ?_)) ?_
  · refine init_setL (s := { s with heap := s.heap.push (setO0 w) }) (by simp [hh]) (hl.push _) hi few hS lt (Heap.size_push ..) fun h' tk c hR hc k => ?_
    exact ⟨rfl, h', tk, c, rfl, hR, hc, fun b o e => k b o (Nat.ne_of_lt (Heap.lt_size e)) (Heap.get?_push_of_some _ e)⟩
  rintro (e | (v | _ | _ | _)) s2 hr
  all_goals first
    | exact hr
    | exact hr.elim
    | skip
  rcases hr with ⟨rfl, h', tk, c, rfl, hR, hc, k⟩
  repeat (any_goals (first | assumption | wp_step))
  exact q _ _ _ hR hc k
/-- set(xs), xs a list of ints -/
def rSetOfL (K : PySem.W.Frag) (w : World) : List V → Hp → VK → Prop := fun vs H Q => ∃ (a : Addr) (ns : List Int), vs = [.ref a] ∧ SqL K H a (ns.map V.int) ∧ ns.length ≤ 4000 ∧ ∀ p c, H p = none → Q (.ref p) (upd H p (SetO w p (fun j => decide (j ∈ ns)) c))
theorem cr_setL {X : Cx} (hc : X.calm = true) : CallR X (.type "set") (rSetOfL X.K X.w) := by
  rintro pins s σ H vs us Q I r ⟨a, ns, rfl, hq, few, q⟩
  rw [Vals.ref1 r]
  rcases I.list hq with ⟨its, rv, hl, _⟩
  have sc : scanBound = 4096 := rfl
  refine call_setL (I.ok.hd hc) hl.isList (items := its.toArray) (ns := ns) (by rw [List.toList_toArray]; exact Vals.ints rv) (by omega) fun h' tk c hR _ k => ?_
  exact ⟨.ref s.heap.objs.size, _, I.laid (t' := tk) (fun b u e => k b u e) (Nat.le_refl _) (setO_new hR), rfl, q _ c (I.hok.fresh (Nat.le_refl _))⟩
end LB

namespace LB
open PySem PySem.Spec PyProof.Rows L2
/-! ### True and False among the numbers -/
theorem neg_bl_gives (a : Bool) : Gives (Builtin.«int.__neg__» ⟨[.bool a], []⟩) (.int (-(if a = true then (1 : Int) else 0))) :=
  .of_wp fun M A E s Q h => by obtain ⟨hp, g, d, tk, os⟩ := s; cases a <;> (wp_walk; exact ⟨_, rfl, h⟩)
theorem neg_bl {prog : Program} {w : World} {A : Around} {E : Value → Shared → Prop} {s : Shared} {a : Bool} {Q : Value → Shared → Prop} (h : Q (.int (-(if a = true then (1 : Int) else 0)) s.toks) { s with toks := s.toks + 1 }) : wpAny (model prog w) A (unaryOp .USub (.bool a)) Q E s :=
  PySem.unaryOp_gives (op := .USub) (PySem.typeIs_bool s a) rfl F.slot_bool_neg F.entry_int_neg (F.args_int_neg_1 _) (neg_bl_gives a) h
abbrev bI (b : Bool) : Int := if b = true then 1 else 0
def rAddO (K : PySem.W.Frag) : R2 := fun x y H Q => rAddA K x y H Q ∨ ∃ b j, x = .bl b ∧ y = .int j ∧ Q (.int (bI b + j)) H
def rSubO : R2 := fun x y H Q => rSubI x y H Q ∨ ∃ b j, x = .bl b ∧ y = .int j ∧ Q (.int (bI b - j)) H
def rNegO : V → Hp → VK → Prop := fun x H Q => rNegI x H Q ∨ ∃ b, x = .bl b ∧ Q (.int (-(bI b))) H
def rStrO : List V → Hp → VK → Prop := fun xs H Q => rStrInt xs H Q ∨ ∃ b : Bool, xs = [.bl b] ∧ Q (.str (if b then "True" else "False")) H
def rEqO (K : PySem.W.Frag) : R2 := fun x y H Q => rEqA K x y H Q ∨ ∃ b j, x = .bl b ∧ y = .int j ∧ Q (.bl (bI b == j)) H
section
variable {X : Cx}
theorem op_addO : OpR X (binaryOp .Add) (rAddO X.K) := op_addA.or (by
  intro pins s σ H x y v u Q I rx ry h
  obtain ⟨b, j, rfl, rfl, q⟩ := h
  cases rx
  obtain ⟨t, rfl⟩ := ry
  exact IntBool.add_bool_int ⟨.int (bI b + j), H, I.tok _, ⟨_, rfl⟩, q⟩)
theorem op_subO : OpR X (binaryOp .Sub) rSubO := op_sub.or (by
  intro pins s σ H x y v u Q I rx ry h
  obtain ⟨b, j, rfl, rfl, q⟩ := h
  cases rx
  obtain ⟨t, rfl⟩ := ry
  exact IntBool.sub_bool_int ⟨.int (bI b - j), H, I.tok _, ⟨_, rfl⟩, q⟩)
theorem op_eqO (u : X.A.units + 65 < cLine) : OpR X (compareOp .Eq) (rEqO X.K) := (op_eqA u).or (by
  intro pins s σ H x y v u Q I rx ry h
  obtain ⟨b, j, rfl, rfl, q⟩ := h
  cases rx
  obtain ⟨t, rfl⟩ := ry
  exact EqBoolInt.eq_bool_int ⟨.bl (bI b == j), H, I, rfl, q⟩)
theorem un_negO : UnR X (unaryOp .USub) rNegO := by
  intro pins s σ H x v Q I rx h
  rcases h with h | ⟨b, rfl, q⟩
  · exact un_neg pins s σ H x v Q I rx h
  · cases rx
    exact neg_bl ⟨.int (-(bI b)), H, I.tok _, ⟨_, rfl⟩, q⟩
theorem call_strO : CallR X (.type "str") rStrO := by
  intro pins s σ H xs us Q I r h
  rcases h with h | ⟨b, rfl, q⟩
  · exact call_str_int pins s σ H xs us Q I r h
  · obtain ⟨u, rfl, r1⟩ := vals1 r
    cases r1
    exact PySem.P.str_of_bool ⟨.str _, H, I.tok _, ⟨_, rfl⟩, q⟩
theorem mt_popA : MtM X "list.pop" rPopA := mt_popAt
abbrev rExtendA : V → List V → Hp → VK → Prop := rExtend
theorem mt_extendA : MtM X "list.extend" rExtendA := mt_extend
end
/-! ### slices and sums of tuples; lists twice -/
abbrev NoS : Addr → Prop := fun _ => False
theorem Pot.keep {H H1 : Hp} {p : Addr} {n : Nat} (h : Pot H p n) (k : Keep NoS H H1) : Pot H1 p n := by
  obtain ⟨a, b, c, e, r⟩ := h
  exact ⟨a, b, c, k.all _ _ id e, r⟩
theorem Keep.of0 {S : Addr → Prop} {H H1 : Hp} (k : Keep NoS H H1) : Keep S H H1 := k.mono fun _ h => h.elim
def cutD (ds : List PyData) (lo hi : Option Int) : List PyData := (ds.drop (HT.sIx ds.length 0 lo)).take (HT.sIx ds.length ds.length hi - HT.sIx ds.length 0 lo)
theorem DDs.cut {S : Addr → Prop} {H : Hp} {xs : List V} {ds : List PyData} (h : DDs S H xs ds) (lo hi : Option Int) : DDs S H (cutV xs lo hi) (cutD ds lo hi) := by
  unfold cutV cutD
  rw [h.length]
  exact (h.drop _).take _
theorem cutV_full {xs : List V} {lo hi : Option Int} (h : HT.sIx xs.length 0 lo = 0 ∧ HT.sIx xs.length xs.length hi = xs.length) : cutV xs lo hi = xs := by
  unfold cutV
  rw [h.1, h.2, List.drop_zero, Nat.sub_zero, List.take_length]
theorem cutD_mem {ds : List PyData} {lo hi : Option Int} {d : PyData} (h : d ∈ cutD ds lo hi) : d ∈ ds := List.mem_of_mem_drop (List.mem_of_mem_take h)
section
variable {K : PySem.W.Frag} {H : Hp} {Q : VK}
theorem o_slt {a : Addr} {xs : List V} {lo hi : Option Int} (e : H a = some (.tup xs)) (h : ∀ p H1, Keep NoS H H1 → H1 p = some (.tup (cutV xs lo hi)) → Q (.ref p) H1) : rSlAny K (.ref a) lo hi H Q :=
  .inr (.inl ⟨a, xs, rfl, .inl (.inl e), fun w => h a H (Keep.refl _ _) (by rw [cutV_full w]; exact e), fun _ p hp => h p _ (Keep.new hp) upd_same⟩)
theorem o_catt {a b : Addr} {xs ys : List V} (e1 : H a = some (.tup xs)) (e2 : H b = some (.tup ys)) (e : xs.length + ys.length ≤ sizeLine) (h : ∀ p H1, Keep NoS H H1 → H1 p = some (.tup (xs ++ ys)) → Q (.ref p) H1) : rAddA K (.ref a) (.ref b) H Q :=
  .inr (.inr (.inr ⟨a, b, xs, ys, rfl, rfl, .inl (.inl e1), .inl (.inl e2), e, fun z => h b H (Keep.refl _ _) (by rw [z]; exact e2), fun _ z => h a H (Keep.refl _ _) (by rw [z, List.append_nil]; exact e1), fun _ _ p hp => h p _ (Keep.new hp) upd_same⟩))
theorem o_rep2 {a : Addr} {xs : List V} (e : H a = some (.lst xs)) (z : xs.length * 2 ≤ sizeLine) (h : ∀ p H1, New H H1 p (.lst (xs ++ xs)) → Q (.ref p) H1) : rMulA K (.ref a) (.int 2) H Q :=
  .inr (.inr (.inl ⟨a, 2, xs, rfl, rfl, e, by decide, by decide, z, fun p hp => h p _ (by
    have : (List.replicate (2 : Int).toNat xs).flatten = xs ++ xs := by
      show (List.replicate 2 xs).flatten = _
      simp [List.replicate]
    rw [this]
    exact .mk' hp)⟩))
theorem o_extend {a b : Addr} {xs ys : List V} (e1 : H a = some (.lst xs)) (e2 : H b = some (.lst ys)) (e : xs.length + ys.length ≤ sizeLine) (h : ∀ H1, Put H H1 a (.lst (xs ++ ys)) → Q .non H1) : rExtendA (.ref a) [.ref b] H Q := ⟨a, b, xs, ys, rfl, rfl, e1, e2, e, h _ .mk'⟩
theorem o_sls {z : Str} {lo hi : Option Int} (e : z.length ≤ sizeLine) (h : Q (.str (cutS z lo hi)) H) : rSlAny K (.str z) lo hi H Q := .inr (.inr ⟨z, rfl, e, h⟩)
theorem w_dnew {σ : LB.St} (h : ∀ p H1, New H H1 p (.dK []) → Q (.ref p) H1) : tDNewK σ H Q := fun p hp => h p _ (.mk' hp)
theorem w_m0 {σ : LB.St} {r : V → List V → Hp → VK → Prop} {to : TE} (h : to σ H fun x H1 => (∃ a, x = .str a) ∧ r x [] H1 Q) : tM0 r to σ H Q := h
theorem oo_add {x y : V} (h : rAddA K x y H Q) : rAddO K x y H Q := .inl h
theorem oo_addb {b : Bool} {j : Int} (h : Q (.int (bI b + j)) H) : rAddO K (.bl b) (.int j) H Q := .inr ⟨b, j, rfl, rfl, h⟩
theorem oo_sub {i j : Int} (h : Q (.int (i - j)) H) : rSubO (.int i) (.int j) H Q := .inl ⟨i, j, rfl, rfl, h⟩
theorem oo_subb {b : Bool} {j : Int} (h : Q (.int (bI b - j)) H) : rSubO (.bl b) (.int j) H Q := .inr ⟨b, j, rfl, rfl, h⟩
theorem oo_neg {i : Int} (h : Q (.int (-i)) H) : rNegO (.int i) H Q := .inl ⟨i, rfl, h⟩
theorem oo_negb {b : Bool} (h : Q (.int (-(bI b))) H) : rNegO (.bl b) H Q := .inr ⟨b, rfl, h⟩
theorem oo_str {i : Int} (e : i.natAbs.log2 < 1920) (h : Q (.str (toString i)) H) : rStrO [.int i] H Q := .inl ⟨i, rfl, e, h⟩
theorem oo_strb {b : Bool} (h : Q (.str (if b then "True" else "False")) H) : rStrO [.bl b] H Q := .inr ⟨b, rfl, h⟩
theorem oo_eq {i j : Int} (h : Q (.bl (decide (V.int i = V.int j))) H) : rEqO K (.int i) (.int j) H Q := .inl (o_eqs rfl h)
theorem oo_eqb {b : Bool} {j : Int} (h : Q (.bl (bI b == j)) H) : rEqO K (.bl b) (.int j) H Q := .inr ⟨b, j, rfl, rfl, h⟩
end
end LB

open PySem PySem.Spec PyProof.Rows L2 LB
/-! the tactic: one step of a reading; many -/
local macro_rules | `(tactic| walk_at "w1_2") => `(tactic| first
  | with_reducible refine w_seq ?_ | with_reducible refine w_asg ?_ | with_reducible refine w_drop ?_ | with_reducible refine w_ret ?_ | with_reducible refine w_next ?_
  | with_reducible refine w_ifs ?_ | with_reducible refine w_forR1 ?_ | with_reducible refine w_forR2 ?_ | with_reducible refine w_forL ?_ | with_reducible refine w_forT ?_ | with_reducible refine w_name ?_ | with_reducible refine w_sub ?_ | with_reducible refine w_par ?_
  | with_reducible refine w_var (by with_unfolding_all rfl) ?_ | with_reducible refine w_c ?_ | with_reducible refine w_op ?_ | with_reducible refine w_un ?_
  | with_reducible refine w_test ?_ | with_reducible refine w_tb ?_ | with_reducible refine w_nil ?_ | with_reducible refine w_cons ?_ | with_reducible refine w_cb ?_ | with_reducible refine w_call ?_
  | with_reducible refine w_not ?_ | with_reducible refine w_and ?_ | with_reducible refine w_or ?_ | with_reducible refine w_andV ?_ | with_reducible refine w_orV ?_ | with_reducible refine w_notV ?_
  | with_reducible refine w_ife ?_ | with_reducible refine w_chain ?_ | with_reducible refine w_bm ?_ | with_reducible refine w_sl ?_ | with_reducible refine w_part ?_ | with_reducible refine w_nopart ?_
  | with_reducible refine w_exb ?_ | with_reducible refine w_exi ?_ | with_reducible refine w_ex2 ?_ | with_reducible refine w_ex3 ?_ | with_reducible refine w_lstrg ?_ | with_reducible refine w_rg2 ?_ | with_reducible refine w_rg1 ?_ | with_reducible refine w_exij ?_ | with_reducible refine w_tup ?_ | with_reducible refine w_lst ?_
  | with_reducible refine o_add ?_ | with_reducible refine o_sub ?_ | with_reducible refine o_neg ?_ | with_reducible refine o_lt ?_ | with_reducible refine o_le ?_ | with_reducible refine o_gt ?_ | with_reducible refine o_ge ?_
  | with_reducible refine o_ixL (by assumption) (by decide) (by with_unfolding_all rfl) ?_ | with_reducible refine o_ixT (by assumption) (by decide) (by with_unfolding_all rfl) ?_
  | with_reducible refine o_mod (by first | decide | omega) ?_ | with_reducible refine o_mul (by first | decide | omega) ?_ | with_reducible refine o_fdv (by first | decide | omega) (by first | decide | omega) ?_ | with_reducible refine o_setL (by assumption) (by decide) (by simp) ?_
  | with_reducible refine oo_addi ?_ | with_reducible refine oo_sub ?_ | with_reducible refine oo_neg ?_ | with_reducible refine w_rev ?_ | with_reducible refine w_m0 ?_
  | with_reducible refine w_par3 ?_ | with_reducible refine w_tyl (by assumption) ?_
  | with_reducible refine o_abs ?_ | with_reducible refine o_eqs (by with_unfolding_all rfl) ?_ | with_reducible refine o_nes (by with_unfolding_all rfl) ?_ | with_reducible refine o_max2 ?_ | with_reducible refine o_min2 ?_ | with_reducible refine o_isiX (by assumption) ?_ | with_reducible refine o_lenl (by assumption) ?_ | with_reducible refine o_lent (by assumption) ?_ | with_reducible refine o_int1b ?_)
local macro_rules | `(tactic| walk_at "ws_2") => `(tactic| repeat (first | walk_at "w1_2" | dsimp only [List.set_cons_zero, List.set_cons_succ]))
namespace LB
/-! ### kinds -/
def isIntD : PyData → Bool
  | .int _ => true
  | _ => false
def within : PyData → Int → Int → Bool
  | .int i, lo, hi => decide (lo ≤ i) && decide (i ≤ hi)
  | _, _, _ => false
def leD : PyData → PyData → Bool
  | .int i, .int j => decide (i ≤ j)
  | _, _ => false
def fitsD (k v : PyData) : Bool := if eqStr k "write" = true then within v 1 1000000000 else eqStr k "read" && within v 0 1000000000
def stampD (v : PyData) : Bool := within v (-1000000000000000) 1000000000000000
def stampsD (b e : PyData) : Bool := stampD b && (stampD e && leD b e)
/-- an operation -/
def isOpD : PyData → Bool
  | .tuple [k, v, b, e] => fitsD k v && stampsD b e
  | _ => false
theorem isT_int (d : PyData) : isT "int" d = (match d with | .int _ => true | .bool _ => true | _ => false) := by cases d <;> (show isTs _ _ = _; simp only [tyN]; decide +kernel)
theorem isT_bool (d : PyData) : isT "bool" d = (match d with | .bool _ => true | _ => false) := by cases d <;> (show isTs _ _ = _; simp only [tyN]; decide +kernel)
theorem isT_str (d : PyData) : isT "str" d = (match d with | .str _ => true | _ => false) := by cases d <;> (show isTs _ _ = _; simp only [tyN]; decide +kernel)
theorem isT_tuple (d : PyData) : isT "tuple" d = (match d with | .tuple _ => true | _ => false) := by cases d <;> (show isTs _ _ = _; simp only [tyN]; decide +kernel)
theorem DD.tupX {S : Addr → Prop} {H : Hp} {x : V} {ds : List PyData} (h : DD S H x (.tuple ds)) : ∃ a xs, x = .ref a ∧ H a = some (.tup xs) ∧ DDs S H xs ds := by
  cases h with
  | tup e r => exact ⟨_, _, rfl, e, r⟩
theorem DD.intX {S : Addr → Prop} {H : Hp} {x : V} {i : Int} (h : DD S H x (.int i)) : x = .int i := by cases h; rfl
theorem DD.strX {S : Addr → Prop} {H : Hp} {x : V} {i : Str} (h : DD S H x (.str i)) : x = .str i := by cases h; rfl
theorem DDs.four {S : Addr → Prop} {H : Hp} {xs : List V} {a b c d : PyData} (h : DDs S H xs [a, b, c, d]) : ∃ x y z w, xs = [x, y, z, w] ∧ DD S H x a ∧ DD S H y b ∧ DD S H z c ∧ DD S H w d := by
  cases h with
  | cons h1 h =>
    cases h with
    | cons h2 h =>
      cases h with
      | cons h3 h =>
        cases h with
        | cons h4 h =>
          cases h
          exact ⟨_, _, _, _, rfl, h1, h2, h3, h4⟩
theorem len4 {ds : List PyData} (h : ds.length = 4) : ∃ a b c d, ds = [a, b, c, d] := by
  match ds, h with
  | [a, b, c, d], _ => exact ⟨a, b, c, d, rfl⟩
def spIsInt : Sp := fun vs H Q _ => ∃ (x : V) (d : PyData) (S : Addr → Prop), vs = [x] ∧ DD S H x d ∧ Q (.bl (isIntD d)) H
theorem spIsInt_arity {vs : List V} {H : Hp} {Q : VK} {E : XK} (h : spIsInt vs H Q E) : vs.length = 1 := by obtain ⟨_, _, _, rfl, _⟩ := h; rfl
def spWithin : Sp := fun vs H Q _ => ∃ (x : V) (d : PyData) (S : Addr → Prop) (lo hi : Int), vs = [x, .int lo, .int hi] ∧ DD S H x d ∧ Q (.bl (within d lo hi)) H
theorem spWithin_arity {vs : List V} {H : Hp} {Q : VK} {E : XK} (h : spWithin vs H Q E) : vs.length = 3 := by obtain ⟨_, _, _, _, _, rfl, _⟩ := h; rfl
def spStamp : Sp := fun vs H Q _ => ∃ (x : V) (d : PyData) (S : Addr → Prop), vs = [x] ∧ DD S H x d ∧ Q (.bl (stampD d)) H
theorem spStamp_arity {vs : List V} {H : Hp} {Q : VK} {E : XK} (h : spStamp vs H Q E) : vs.length = 1 := by obtain ⟨_, _, _, rfl, _⟩ := h; rfl
def spStamps : Sp := fun vs H Q _ => ∃ (x y : V) (d e : PyData) (S : Addr → Prop), vs = [x, y] ∧ DD S H x d ∧ DD S H y e ∧ Q (.bl (stampsD d e)) H
theorem spStamps_arity {vs : List V} {H : Hp} {Q : VK} {E : XK} (h : spStamps vs H Q E) : vs.length = 2 := by obtain ⟨_, _, _, _, _, rfl, _⟩ := h; rfl
def spFits : Sp := fun vs H Q _ => ∃ (x y : V) (d e : PyData) (S : Addr → Prop), vs = [x, y] ∧ DD S H x d ∧ DD S H y e ∧ Q (.bl (fitsD d e)) H
theorem spFits_arity {vs : List V} {H : Hp} {Q : VK} {E : XK} (h : spFits vs H Q E) : vs.length = 2 := by obtain ⟨_, _, _, _, _, rfl, _⟩ := h; rfl
def spIsOp : Sp := fun vs H Q _ => ∃ (x : V) (d : PyData) (S : Addr → Prop), vs = [x] ∧ DD S H x d ∧ Q (.bl (isOpD d)) H
theorem spIsOp_arity {vs : List V} {H : Hp} {Q : VK} {E : XK} (h : spIsOp vs H Q E) : vs.length = 1 := by obtain ⟨_, _, _, rfl, _⟩ := h; rfl
abbrev spIsNum : Sp := spWithin
theorem spIsNum_arity {vs : List V} {H : Hp} {Q : VK} {E : XK} (h : spIsNum vs H Q E) : vs.length = 3 := spWithin_arity h
def spIsCall : Sp := fun vs H Q _ => ∃ (x : V) (d : PyData) (S : Addr → Prop), vs = [x] ∧ DD S H x d ∧ ∀ H1, Keep NoS H H1 → Q (.bl (isOpD d)) H1
theorem spIsCall_arity {vs : List V} {H : Hp} {Q : VK} {E : XK} (h : spIsCall vs H Q E) : vs.length = 1 := by obtain ⟨_, _, _, rfl, _⟩ := h; rfl

def t_is_integer (K : PySem.W.Frag) : TS :=
  (tRet (tAndV (tCB (rIsi K) (tCons (tVar 0) (tCons (tC (V.ty "int")) tNil))) (tNotV (tCB (rIsi K) (tCons (tVar 0) (tCons (tC (V.ty "bool")) tNil))))))

def t_is_integer_within (K : PySem.W.Frag) : TS :=
  (tRet (tAndV (tCall spIsInt [] E0 (tCons (tVar 0) tNil)) (tChain rLeI rLeI (tVar 1) (tVar 0) (tVar 2))))

def t__is_stamp (K : PySem.W.Frag) : TS :=
  (tRet (tCall spWithin [] E0 (tCons (tVar 0) (tCons (tUn rNegI (tC (V.int 1000000000000000))) (tCons (tC (V.int 1000000000000000)) tNil)))))

def t__are_stamps (K : PySem.W.Frag) : TS :=
  (tRet (tAndV (tCall spStamp [] E0 (tCons (tVar 0) tNil)) (tAndV (tCall spStamp [] E0 (tCons (tVar 1) tNil)) (tOp rLeI (tVar 0) (tVar 1)))))

def t__fits_kind (K : PySem.W.Frag) : TS :=
  (tSeq (tIfS (tTest (tOp (rEqA K) (tVar 0) (tC (V.str "write"))))
    (tRet (tCall spWithin [] E0 (tCons (tVar 1) (tCons (tC (V.int 1)) (tCons (tC (V.int 1000000000)) tNil))))) tNext)
    (tRet (tAndV (tOp (rEqA K) (tVar 0) (tC (V.str "read"))) (tCall spWithin [] E0 (tCons (tVar 1) (tCons (tC (V.int 0)) (tCons (tC (V.int 1000000000)) tNil)))))))

def t_is_operation (K : PySem.W.Frag) : TS :=
  (tSeq (tIfS (tOr (tNot (tB (tCB (rIsi K) (tCons (tVar 0) (tCons (tC (V.ty "tuple")) tNil))))) (tTest (tOp (rNeA K) (tCB (rLen K) (tCons (tVar 0) tNil)) (tC (V.int 4)))))
    (tRet (tC (V.bl false))) tNext)
    (tSeq (tAsg (tVar 0) (gTup K 4 (gCons (gName 1) (gCons (gName 2) (gCons (gName 3) (gCons (gName 4) gNil))))))
    (tRet (tAndV (tCall spFits [] E0 (tCons (tVar 1) (tCons (tVar 2) tNil))) (tCall spStamps [] E0 (tCons (tVar 3) (tCons (tVar 4) tNil)))))))

def t__law_is_number (K : PySem.W.Frag) : TS :=
  (tRet (tAndV (tCB (rIsi K) (tCons (tVar 0) (tCons (tC (V.ty "int")) tNil))) (tAndV (tNotV (tCB (rIsi K) (tCons (tVar 0) (tCons (tC (V.ty "bool")) tNil)))) (tChain rLeI rLeI (tVar 1) (tVar 0) (tVar 2)))))

def t__law_is_call (K : PySem.W.Frag) : TS :=
  (tSeq (tIfS (tOr (tNot (tB (tCB (rIsi K) (tCons (tVar 0) (tCons (tC (V.ty "tuple")) tNil))))) (tOr (tTest (tOp (rNeA K) (tCB (rLen K) (tCons (tVar 0) tNil)) (tC (V.int 4)))) (tNot (tB (tCB (rIsi K) (tCons (tOp (rIx K) (tVar 0) (tC (V.int 0))) (tCons (tC (V.ty "str")) tNil)))))))
    (tRet (tC (V.bl false))) tNext)
    (tSeq (tIfS (tOr (tTest (tOp (rNiA K) (tOp (rIx K) (tVar 0) (tC (V.int 0))) (tTup (tCons (tC (V.str "read")) (tCons (tC (V.str "write")) tNil))))) (tNot (tB (tCall spIsNum [] E0 (tCons (tOp (rIx K) (tVar 0) (tC (V.int 1))) (tCons (tCB rInt1 (tCons (tOp (rEqA K) (tOp (rIx K) (tVar 0) (tC (V.int 0))) (tC (V.str "write"))) tNil)) (tCons (tOp rPowI (tC (V.int 10)) (tC (V.int 9))) tNil)))))))
    (tRet (tC (V.bl false))) tNext)
    (tSeq (tIfS (tOr (tNot (tB (tCall spIsNum [] E0 (tCons (tOp (rIx K) (tVar 0) (tC (V.int 2))) (tCons (tUn rNegI (tOp rPowI (tC (V.int 10)) (tC (V.int 15)))) (tCons (tOp rPowI (tC (V.int 10)) (tC (V.int 15))) tNil)))))) (tNot (tB (tCall spIsNum [] E0 (tCons (tOp (rIx K) (tVar 0) (tC (V.int 3))) (tCons (tUn rNegI (tOp rPowI (tC (V.int 10)) (tC (V.int 15)))) (tCons (tOp rPowI (tC (V.int 10)) (tC (V.int 15))) tNil)))))))
    (tRet (tC (V.bl false))) tNext)
    (tRet (tOp rLeI (tOp (rIx K) (tVar 0) (tC (V.int 2))) (tOp (rIx K) (tVar 0) (tC (V.int 3))))))))

theorem pure_is_integer {K : PySem.W.Frag} {vs : List V} {H : Hp} {Q : VK} {E : XK} (h : spIsInt vs H Q E) : t_is_integer K { nx := fun _ H' => Q .non H', rt := Q } (start ["value"] vs) H := by
  obtain ⟨x, d, S, rfl, hd, q⟩ := h
  show t_is_integer K _ [some x] H
  unfold t_is_integer
  walk_at "ws_2"
  rw [isT_int]
  refine w_iteb (fun c => ?_) (fun c => ?_)
  · walk_at "ws_2"
    rw [isT_bool]
    cases d <;> first | (cases c; done) | exact q
  · cases d <;> first | (cases c; done) | exact q
theorem pure__law_is_number {K : PySem.W.Frag} {vs : List V} {H : Hp} {Q : VK} {E : XK} (h : spIsNum vs H Q E) : t__law_is_number K { nx := fun _ H' => Q .non H', rt := Q } (start ["thing", "least", "most"] vs) H := by
  obtain ⟨x, d, S, lo, hi, rfl, hd, q⟩ := h
  show t__law_is_number K _ [some x, some (.int lo), some (.int hi)] H
  unfold t__law_is_number
  walk_at "ws_2"
  rw [isT_int]
  refine w_iteb (fun c => ?_) (fun c => ?_)
  · walk_at "ws_2"
    rw [isT_bool]
    cases d with
    | int i =>
      have := hd.intX
      subst this
      refine w_iteT rfl ?_
      walk_at "ws_2"
      refine w_iteb (fun c1 => ?_) (fun c1 => ?_)
      · walk_at "ws_2"
        simp only [within, c1, Bool.true_and] at q
        exact q
      · simp only [within, c1, Bool.false_and] at q
        exact q
    | bool b => exact q
    | _ => cases c
  · cases d <;> first | (cases c; done) | exact q
theorem pure_is_integer_within {K : PySem.W.Frag} {vs : List V} {H : Hp} {Q : VK} {E : XK} (h : spWithin vs H Q E) : t_is_integer_within K { nx := fun _ H' => Q .non H', rt := Q } (start ["value", "least", "greatest"] vs) H := by
  obtain ⟨x, d, S, lo, hi, rfl, hd, q⟩ := h
  show t_is_integer_within K _ [some x, some (.int lo), some (.int hi)] H
  unfold t_is_integer_within
  walk_at "ws_2"
  refine ⟨x, d, S, rfl, hd, ?_⟩
  walk_at "ws_2"
  cases d with
  | int i =>
    have := hd.intX
    subst this
    refine w_iteT rfl ?_
    walk_at "ws_2"
    refine w_iteb (fun c1 => ?_) (fun c1 => ?_)
    · walk_at "ws_2"
      simp only [within, c1, Bool.true_and] at q
      exact q
    · simp only [within, c1, Bool.false_and] at q
      exact q
  | _ => exact q
theorem pure__is_stamp {K : PySem.W.Frag} {vs : List V} {H : Hp} {Q : VK} {E : XK} (h : spStamp vs H Q E) : t__is_stamp K { nx := fun _ H' => Q .non H', rt := Q } (start ["value"] vs) H := by
  obtain ⟨x, d, S, rfl, hd, q⟩ := h
  show t__is_stamp K _ [some x] H
  unfold t__is_stamp
  walk_at "ws_2"
  exact ⟨x, d, S, _, _, rfl, hd, q⟩
theorem within_int {d : PyData} {lo hi : Int} (h : within d lo hi = true) : ∃ i, d = .int i := by
  cases d <;> first | exact ⟨_, rfl⟩ | (simp only [within] at h; cases h)
theorem pure__are_stamps {K : PySem.W.Frag} {vs : List V} {H : Hp} {Q : VK} {E : XK} (h : spStamps vs H Q E) : t__are_stamps K { nx := fun _ H' => Q .non H', rt := Q } (start ["begin", "end"] vs) H := by
  obtain ⟨x, y, d, e, S, rfl, hd, he, q⟩ := h
  show t__are_stamps K _ [some x, some y] H
  unfold t__are_stamps
  walk_at "ws_2"
  refine ⟨x, d, S, rfl, hd, ?_⟩
  walk_at "ws_2"
  refine w_iteb (fun c1 => ?_) (fun c1 => ?_)
  · walk_at "ws_2"
    refine ⟨y, e, S, rfl, he, ?_⟩
    walk_at "ws_2"
    refine w_iteb (fun c2 => ?_) (fun c2 => ?_)
    · obtain ⟨i, rfl⟩ := within_int c1
      obtain ⟨j, rfl⟩ := within_int c2
      have := hd.intX
      subst this
      have := he.intX
      subst this
      walk_at "ws_2"
      simp only [stampsD, c1, c2, Bool.true_and] at q
      exact q
    · simp only [stampsD, c1, c2, Bool.true_and, Bool.false_and] at q
      exact q
  · simp only [stampsD, c1, Bool.false_and] at q
    exact q
theorem o_eqx {K : PySem.W.Frag} {S : Addr → Prop} {H : Hp} {Q : VK} {x : V} {d : PyData} {z : Str} (h : DD S H x d) (q : Q (.bl (eqStr d z)) H) : rEqA K x (.str z) H Q := .inr (.inl ⟨d, S, z, h, rfl, q⟩)
theorem pure__fits_kind {K : PySem.W.Frag} {vs : List V} {H : Hp} {Q : VK} {E : XK} (h : spFits vs H Q E) : t__fits_kind K { nx := fun _ H' => Q .non H', rt := Q } (start ["kind", "held"] vs) H := by
  obtain ⟨x, y, d, e, S, rfl, hd, he, q⟩ := h
  show t__fits_kind K _ [some x, some y] H
  unfold t__fits_kind
  walk_at "ws_2"
  refine o_eqx hd ?_
  walk_at "ws_2"
  refine w_iteb (fun c1 => ?_) (fun c1 => ?_)
  · walk_at "ws_2"
    refine ⟨y, e, S, _, _, rfl, he, ?_⟩
    simp only [fitsD, c1, if_true] at q
    exact q
  · walk_at "ws_2"
    refine o_eqx hd ?_
    walk_at "ws_2"
    refine w_iteb (fun c2 => ?_) (fun c2 => ?_)
    · walk_at "ws_2"
      refine ⟨y, e, S, _, _, rfl, he, ?_⟩
      simp only [fitsD, c1, c2, Bool.false_eq_true, if_false, Bool.true_and] at q
      exact q
    · simp only [fitsD, c1, c2, Bool.false_eq_true, if_false, Bool.false_and] at q
      exact q
theorem pure_is_operation {K : PySem.W.Frag} {vs : List V} {H : Hp} {Q : VK} {E : XK} (h : spIsOp vs H Q E) : t_is_operation K { nx := fun _ H' => Q .non H', rt := Q } (start ["value", "kind", "held", "begin", "end"] vs) H := by
  obtain ⟨x, d, S, rfl, hd, q⟩ := h
  show t_is_operation K _ [some x, none, none, none, none] H
  unfold t_is_operation
  walk_at "ws_2"
  rw [isT_tuple]
  cases d with
  | tuple ds =>
    refine w_iteF rfl ?_
    obtain ⟨a, xs, rfl, ha, hx⟩ := hd.tupX
    have hl := hx.length
    walk_at "ws_2"
    by_cases h4 : ds.length = 4
    · refine w_iteF (by rw [hl, h4]; rfl) ?_
      obtain ⟨k, v, b, e, rfl⟩ := len4 h4
      obtain ⟨x1, x2, x3, x4, rfl, d1, d2, d3, d4⟩ := hx.four
      walk_at "ws_2"
      refine ⟨a, [x1, x2, x3, x4], rfl, .inl (.inl ha), rfl, x1, _, rfl, x2, _, rfl, x3, _, rfl, x4, _, rfl, rfl, ?_⟩
      show _
      walk_at "ws_2"
      refine ⟨x1, x2, k, v, S, rfl, d1, d2, ?_⟩
      walk_at "ws_2"
      refine w_iteb (fun c1 => ?_) (fun c1 => ?_)
      · walk_at "ws_2"
        refine ⟨x3, x4, b, e, S, rfl, d3, d4, ?_⟩
        simp only [isOpD, c1, Bool.true_and] at q
        exact q
      · simp only [isOpD, c1, Bool.false_and] at q
        exact q
    · refine w_iteT (by rw [hl]; simp; omega) ?_
      walk_at "ws_2"
      have : isOpD (.tuple ds) = false := by
        unfold isOpD
        split
        · rename_i e
          injection e with e
          subst e
          exact absurd rfl h4
        · rfl
      rw [this] at q
      exact q
  | _ => exact q
theorem inV_rw {z : Str} : inV (.str z) [V.str "read", V.str "write"] = (decide (z = "read") || decide (z = "write")) := by
  unfold inV
  rw [List.any_cons, List.any_cons, List.any_nil, Bool.or_false]
  have e : ∀ a b : Str, eqV (.str a) (.str b) = decide (b = a) := fun a b => by
    unfold eqV
    first
      | exact decide_eq_decide.mpr ⟨Eq.symm, Eq.symm⟩
      | (by_cases h : a = b
         · subst h; simp
         · have : b ≠ a := fun z => h z.symm
           simp [h, this])
  rw [e, e]
theorem pure__law_is_call {K : PySem.W.Frag} {vs : List V} {H : Hp} {Q : VK} {E : XK} (h : spIsCall vs H Q E) : t__law_is_call K { nx := fun _ H' => Q .non H', rt := Q } (start ["thing"] vs) H := by
  obtain ⟨x, d, S, rfl, hd, q⟩ := h
  show t__law_is_call K _ [some x] H
  unfold t__law_is_call
  walk_at "ws_2"
  rw [isT_tuple]
  have q0 := q H (Keep.refl _ _)
  cases d with
  | tuple ds =>
    refine w_iteF rfl ?_
    obtain ⟨a, xs, rfl, ha, hx⟩ := hd.tupX
    have hl := hx.length
    walk_at "ws_2"
    by_cases h4 : ds.length = 4
    · refine w_iteF (by rw [hl, h4]; rfl) ?_
      obtain ⟨k, v, b, e, rfl⟩ := len4 h4
      obtain ⟨x1, x2, x3, x4, rfl, d1, d2, d3, d4⟩ := hx.four
      walk_at "ws_2"
      rw [isT_str]
      cases k with
      | str z =>
        have := d1.strX
        subst this
        refine w_iteF rfl ?_
        walk_at "ws_2"
        refine k_tup (by simp; decide) fun t H1 n1 => ?_
        have ha1 := n1.get ha
        have d2 := d2.keep (n1.keep)
        have d3 := d3.keep (n1.keep)
        have d4 := d4.keep (n1.keep)
        have q1 := q H1 n1.keep
        refine .inl ⟨t, _, rfl, .inr (.inl (.inl n1.at_)), rfl, rfl, ?_⟩
        rw [if_pos rfl]
        walk_at "ws_2"
        rw [inV_rw]
        refine w_iteb (fun c1 => ?_) (fun c1 => ?_)
        · walk_at "ws_2"
          have : isOpD (.tuple [.str z, v, b, e]) = false := by
            simp only [isOpD, fitsD, eqStr]
            simp at c1
            simp [c1.1, c1.2]
          rw [this] at q1
          exact q1
        · simp only [Bool.not_eq_false'] at c1
          walk_at "ws_2"
          refine o_pow ⟨by decide, by decide +kernel⟩ ?_
          walk_at "ws_2"
          rw [show (10 : Int) ^ (9 : Int).toNat = 1000000000 by decide +kernel]
          refine ⟨x2, v, S, _, _, rfl, d2, ?_⟩
          have e1 : fitsD (.str z) v = within v (if decide (V.str z = V.str "write") = true then 1 else 0) 1000000000 := by
            have e0 : decide (V.str z = V.str "write") = decide (z = "write") := by simp
            rw [e0]
            simp only [fitsD, eqStr]
            by_cases hz : z = "write"
            · subst hz
              rfl
            · simp only [hz, decide_false, Bool.false_eq_true, if_false]
              simp only [hz, decide_false, Bool.or_false] at c1
              rw [c1, Bool.true_and]
          rw [← e1]
          walk_at "ws_2"
          refine w_iteb (fun c2 => ?_) (fun c2 => ?_)
          · walk_at "ws_2"
            have : isOpD (.tuple [.str z, v, b, e]) = false := by
              simp only [Bool.not_eq_true'] at c2
              simp only [isOpD, c2, Bool.false_and]
            rw [this] at q1
            exact q1
          · simp only [Bool.not_eq_false'] at c2
            have ev : isOpD (.tuple [.str z, v, b, e]) = stampsD b e := by simp only [isOpD, c2, Bool.true_and]
            rw [ev] at q1
            walk_at "ws_2"
            refine o_pow ⟨by decide, by decide +kernel⟩ ?_
            walk_at "ws_2"
            rw [show (10 : Int) ^ (15 : Int).toNat = 1000000000000000 by decide +kernel]
            refine o_pow ⟨by decide, by decide +kernel⟩ ?_
            walk_at "ws_2"
            rw [show (10 : Int) ^ (15 : Int).toNat = 1000000000000000 by decide +kernel]
            refine ⟨x3, b, S, _, _, rfl, d3, ?_⟩
            walk_at "ws_2"
            refine w_iteb (fun c3 => ?_) (fun c3 => ?_)
            · walk_at "ws_2"
              simp only [Bool.not_eq_true'] at c3
              simp only [stampsD, stampD, c3, Bool.false_and] at q1
              exact q1
            · simp only [Bool.not_eq_false'] at c3
              walk_at "ws_2"
              refine o_pow ⟨by decide, by decide +kernel⟩ ?_
              walk_at "ws_2"
              rw [show (10 : Int) ^ (15 : Int).toNat = 1000000000000000 by decide +kernel]
              refine o_pow ⟨by decide, by decide +kernel⟩ ?_
              walk_at "ws_2"
              rw [show (10 : Int) ^ (15 : Int).toNat = 1000000000000000 by decide +kernel]
              refine ⟨x4, e, S, _, _, rfl, d4, ?_⟩
              walk_at "ws_2"
              refine w_iteb (fun c4 => ?_) (fun c4 => ?_)
              · walk_at "ws_2"
                simp only [Bool.not_eq_true'] at c4
                simp only [stampsD, stampD, c3, c4, Bool.false_and, Bool.and_false] at q1
                exact q1
              · simp only [Bool.not_eq_false'] at c4
                obtain ⟨i, rfl⟩ := within_int c3
                obtain ⟨j, rfl⟩ := within_int c4
                have := d3.intX
                subst this
                have := d4.intX
                subst this
                walk_at "ws_2"
                simp only [stampsD, stampD, c3, c4, Bool.true_and] at q1
                exact q1
      | _ => exact q0
    · refine w_iteT (by rw [hl]; simp; omega) ?_
      walk_at "ws_2"
      have : isOpD (.tuple ds) = false := by
        unfold isOpD
        split
        · rename_i e
          injection e with e
          subst e
          exact absurd rfl h4
        · rfl
      rw [this] at q0
      exact q0
  | _ => exact q0
end LB

open PySem PySem.Spec PyProof.Rows L2 LB
/-! the tactic: one step of a reading; many -/
local macro_rules | `(tactic| walk_at "w1_3") => `(tactic| first
  | with_reducible refine w_seq ?_ | with_reducible refine w_asg ?_ | with_reducible refine w_drop ?_ | with_reducible refine w_ret ?_ | with_reducible refine w_next ?_
  | with_reducible refine w_ifs ?_ | with_reducible refine w_forR1 ?_ | with_reducible refine w_forR2 ?_ | with_reducible refine w_forL ?_ | with_reducible refine w_forT ?_ | with_reducible refine w_name ?_ | with_reducible refine w_sub ?_ | with_reducible refine w_par ?_
  | with_reducible refine w_var (by with_unfolding_all rfl) ?_ | with_reducible refine w_c ?_ | with_reducible refine w_op ?_ | with_reducible refine w_un ?_
  | with_reducible refine w_test ?_ | with_reducible refine w_tb ?_ | with_reducible refine w_nil ?_ | with_reducible refine w_cons ?_ | with_reducible refine w_cb ?_ | with_reducible refine w_call ?_
  | with_reducible refine w_not ?_ | with_reducible refine w_and ?_ | with_reducible refine w_or ?_ | with_reducible refine w_andV ?_ | with_reducible refine w_orV ?_ | with_reducible refine w_notV ?_
  | with_reducible refine w_ife ?_ | with_reducible refine w_chain ?_ | with_reducible refine w_bm ?_ | with_reducible refine w_sl ?_ | with_reducible refine w_part ?_ | with_reducible refine w_nopart ?_
  | with_reducible refine w_exb ?_ | with_reducible refine w_exi ?_ | with_reducible refine w_ex2 ?_ | with_reducible refine w_ex3 ?_ | with_reducible refine w_lstrg ?_ | with_reducible refine w_rg2 ?_ | with_reducible refine w_rg1 ?_ | with_reducible refine w_exij ?_ | with_reducible refine w_tup ?_ | with_reducible refine w_lst ?_
  | with_reducible refine o_add ?_ | with_reducible refine o_sub ?_ | with_reducible refine o_neg ?_ | with_reducible refine o_lt ?_ | with_reducible refine o_le ?_ | with_reducible refine o_gt ?_ | with_reducible refine o_ge ?_
  | with_reducible refine o_ixL (by assumption) (by decide) (by with_unfolding_all rfl) ?_ | with_reducible refine o_ixT (by assumption) (by decide) (by with_unfolding_all rfl) ?_
  | with_reducible refine o_mod (by first | decide | omega) ?_ | with_reducible refine o_mul (by first | decide | omega) ?_ | with_reducible refine o_fdv (by first | decide | omega) (by first | decide | omega) ?_ | with_reducible refine o_setL (by assumption) (by decide) (by simp) ?_
  | with_reducible refine oo_addi ?_ | with_reducible refine oo_sub ?_ | with_reducible refine oo_neg ?_ | with_reducible refine w_rev ?_ | with_reducible refine w_m0 ?_
  | with_reducible refine w_par3 ?_ | with_reducible refine w_tyl (by assumption) ?_
  | with_reducible refine o_abs ?_ | with_reducible refine o_eqs (by with_unfolding_all rfl) ?_ | with_reducible refine o_nes (by with_unfolding_all rfl) ?_ | with_reducible refine o_max2 ?_ | with_reducible refine o_min2 ?_ | with_reducible refine o_isiX (by assumption) ?_ | with_reducible refine o_lenl (by assumption) ?_ | with_reducible refine o_lent (by assumption) ?_ | with_reducible refine o_int1b ?_)
local macro_rules | `(tactic| walk_at "ws_3") => `(tactic| repeat (first | walk_at "w1_3" | dsimp only [List.set_cons_zero, List.set_cons_succ]))
namespace LB
theorem pure__law_pot {K : PySem.W.Frag} {vs : List V} {H : Hp} {Q : VK} {E : XK} (h : spPot K vs H Q E) : t__law_pot K { nx := fun _ H' => Q .non H', rt := Q } (start ["script", "k", "cell", "own"] vs) H := by
  obtain ⟨a, k, ns, rfl, hS, k0, k1, hl, q⟩ := h
  show t__law_pot K _ [some (.ref a), some (.int k), none, none] H
  unfold t__law_pot
  walk_at "ws_3"
  refine o_lens hS ?_
  walk_at "ws_3"
  rw [List.length_map]
  refine w_ite (fun h => ?a) (fun h => ?b)
  case' a =>
    have hk : k.toNat < ns.length := by omega
    walk_at "ws_3"
    refine o_ixS hS k0 (v := .int ns[k.toNat]) (by rw [List.getElem?_map, List.getElem?_eq_getElem hk]; rfl) ?_
    walk_at "ws_3"
    generalize ns[k.toNat] = c
  case' b =>
    walk_at "ws_3"
    generalize 19 * k + 6 = c
  all_goals
    unfold t__law_pot_1
    walk_at "ws_3"
    refine o_pow ⟨by decide, by decide +kernel⟩ ?_
    walk_at "ws_3"
    refine o_pow ⟨by decide, by decide +kernel⟩ ?_
    walk_at "ws_3"
    have g0 : 0 ≤ (if c < 0 then -c else c) := by split <;> omega
    generalize (if c < 0 then -c else c) = ac at g0 ⊢
    have g1 : 0 ≤ ac.fmod (((10 : Int) ^ (60 : Int).toNat) ^ (5 : Int).toNat) := Int.fmod_nonneg_of_pos _ (by decide +kernel)
    generalize ac.fmod (((10 : Int) ^ (60 : Int).toNat) ^ (5 : Int).toNat) = own at g1 ⊢
    walk_at "ws_3"
    have f0 : 0 ≤ c.fmod 2305843009213693951 := Int.fmod_nonneg_of_pos _ (by omega)
    have f1 : c.fmod 2305843009213693951 < 2305843009213693951 := Int.fmod_lt_of_pos _ (by omega)
    refine o_pow ⟨by decide, by decide +kernel⟩ ?_
    walk_at "ws_3"
    refine o_mulR (by split <;> decide) ?_
    have g3 : 0 ≤ own * (if decide ((10 : Int) ^ (18 : Int).toNat ≤ ac) = true then (1 : Int) else 0) := Int.mul_nonneg g1 (by generalize decide ((10 : Int) ^ (18 : Int).toNat ≤ ac) = b; cases b <;> decide)
    generalize own * (if decide ((10 : Int) ^ (18 : Int).toNat ≤ ac) = true then (1 : Int) else 0) = oz at g3 ⊢
    walk_at "ws_3"
    refine k_lst (by simp; decide) fun p H1 n1 => ?_
    exact q H1 p n1.no n1.keep ⟨_, _, _, n1.at_, g3, ⟨Int.fmod_nonneg_of_pos _ (by omega), Int.fmod_lt_of_pos _ (by omega)⟩, by omega, by omega⟩
def t__law_wild_1 (K : PySem.W.Frag) : TS :=
  (tSeq (tDrop (tBM K "list" rAppend (tVar 4) (tCons (tVar 7) tNil)))
    (tDrop (tBM K "list" rAppend (tVar 3) (tCons (tTup (tCons (tC (V.str "write")) (tCons (tVar 7) (tCons (tVar 8) (tCons (tOp (rAddA K) (tVar 8) (tCall spDraw [] E0 (tCons (tVar 0) (tCons (tOp (rAddA K) (tOp rFdvI (tVar 2) (tC (V.int 2))) (tC (V.int 1))) tNil)))) tNil))))) tNil))))

def t__law_wild_2 (K : PySem.W.Frag) : TS :=
  (tSeq (tAsg (tOp (rAddA K) (tVar 4) (tLst (tCons (tC (V.int 0)) tNil))) (gName 9))
    (tSeq (tAsg (tCall (spAny K) [] E0 (tCons (tVar 0) (tCons (tOp (rAddA K) (tOp (rAddA K) (tVar 9) (tVar 9)) (tLst (tCons (tVar 7) tNil))) tNil))) (gName 7))
    (tDrop (tBM K "list" rAppend (tVar 3) (tCons (tTup (tCons (tC (V.str "read")) (tCons (tVar 7) (tCons (tVar 8) (tCons (tOp (rAddA K) (tVar 8) (tCall spDraw [] E0 (tCons (tVar 0) (tCons (tOp (rAddA K) (tOp rFdvI (tVar 2) (tC (V.int 2))) (tC (V.int 1))) tNil)))) tNil))))) tNil)))))

def t__law_wild_3 (K : PySem.W.Frag) : TS :=
  (tSeq (tPar 6 7 (tCons (tCall (spAny K) [] E0 (tCons (tVar 0) (tCons (tLst (tCons (tC (V.str "write")) (tCons (tC (V.str "read")) (tCons (tC (V.str "read")) tNil)))) tNil))) (tCons (tCall spDraw [] E0 (tCons (tVar 0) (tCons (tC (V.int 5)) tNil))) tNil)))
    (tSeq (tAsg (tCall spDraw [] E0 (tCons (tVar 0) (tCons (tVar 2) tNil))) (gName 8))
    (tIfS (tAnd (tTest (tOp (rEqA K) (tVar 6) (tC (V.str "write")))) (tAnd (tTest (tOp rGtI (tVar 7) (tC (V.int 0)))) (tTest (tOp (rNiA K) (tVar 7) (tVar 4)))))
    (t__law_wild_1 K) (t__law_wild_2 K))))

def t__law_wild (K : PySem.W.Frag) : TS :=
  (tSeq (tPar 3 4 (tCons (tLst tNil) (tCons (tLst tNil) tNil)))
    (tSeq (tFor (iRng1 (tCons (tCall spDraw [] E0 (tCons (tVar 0) (tCons (tOp (rAddA K) (tVar 1) (tC (V.int 1))) tNil))) tNil)) (gName 5)
    (t__law_wild_3 K))
    (tRet (tCB (rTupOf K) (tCons (tCall (spMixed K) [] E0 (tCons (tVar 0) (tCons (tVar 3) tNil))) tNil)))))


section
variable {K : PySem.W.Frag} {D : Ends} {p f wl : Addr} {most room wv bg : Int} {xs : List V} {ws : List Int} {x5 x6 x9 : Option V} {H : Hp} {M : Nat}
theorem wild_write (hp : Pot H p M) (hM : 1 ≤ M) (hf : H f = some (.lst xs)) (hw : H wl = some (.lst (ws.map V.int))) (pf : p ≠ f) (pw : p ≠ wl) (fw : f ≠ wl)
    (lx : xs.length ≤ 1000) (lw : ws.length ≤ 1000) (r0 : 1 ≤ room) (r1 : room ≤ 1000)
    (q : ∀ (H' : Hp) (e : Int) (t : Addr), Keep (fun b => b = p ∨ b = f ∨ b = wl) H H' → Pot H' p (M - 1) → H' f = some (.lst (xs ++ [.ref t])) → H' wl = some (.lst ((ws ++ [wv]).map V.int)) →
      DD All H' (.ref t) (Op.dat ⟨true, wv, bg, e⟩) → bg ≤ e → e ≤ bg + room → D.nx [some (.ref p), some (.int most), some (.int room), some (.ref f), some (.ref wl), x5, x6, some (.int wv), some (.int bg), x9] H') :
    t__law_wild_1 K D [some (.ref p), some (.int most), some (.int room), some (.ref f), some (.ref wl), x5, x6, some (.int wv), some (.int bg), x9] H := by
  unfold t__law_wild_1
  walk_at "ws_3"
  refine o_app hw (Nat.lt_of_le_of_lt (by rw [List.length_map]; omega : (ws.map V.int).length ≤ 1000) (by decide)) fun H1 p1 => ?_
  have hf1 := p1.get fw hf
  walk_at "ws_3"
  have d0 : 0 ≤ room.fdiv 2 := Int.fdiv_nonneg (by omega) (by omega)
  have d1 : room.fdiv 2 ≤ room := by rw [Int.fdiv_eq_ediv_of_nonneg _ (by omega)]; omega
  refine o_draw (hp.put p1 pw) hM (by omega) (by omega) fun H2 k kp2 pt2 k0 k1 => ?_
  have hf2 := kp2.all _ _ (fun z => pf z.symm) hf1
  have hw2 := kp2.all _ _ (fun z => pw z.symm) p1.at_
  walk_at "ws_3"
  refine k_tup (by simp; decide) fun t H3 n3 => ?_
  walk_at "ws_3"
  refine o_app (n3.get hf2) (Nat.lt_of_le_of_lt lx (by decide)) fun H4 p4 => ?_
  walk_at "ws_3"
  have ft : t ≠ f := (n3.ne hf2).symm
  refine q H4 _ t ?_ ((pt2.new n3).put p4 pf) p4.at_ ?_ ((op_new (w := true) n3).keep (p4.keep (S := All) trivial (n3.get hf2))) (by omega) (by omega)
  · exact (((p1.keep (S := fun b => b = p ∨ b = f ∨ b = wl) (.inr (.inr rfl)) hw).trans (kp2.mono fun b z => .inl z)).trans n3.keep).trans (p4.keep (.inr (.inl rfl)) (n3.get hf2))
  · rw [p4.off _ fw.symm, n3.get hw2, List.map_append]
    rfl
theorem wild_read (hp : Pot H p M) (hM : 2 ≤ M) (hf : H f = some (.lst xs)) (hw : H wl = some (.lst (ws.map V.int))) (pf : p ≠ f) (pw : p ≠ wl) (fw : f ≠ wl)
    (lx : xs.length ≤ 1000) (lw : ws.length ≤ 1000) (r0 : 1 ≤ room) (r1 : room ≤ 1000) (w0 : 0 ≤ wv) (w1 : wv ≤ 4) (hws : ∀ z ∈ ws, 0 ≤ z ∧ z ≤ 4)
    (q : ∀ (H' : Hp) (v e : Int) (t : Addr) (y9 : Option V), Keep (fun b => b = p ∨ b = f ∨ b = wl) H H' → Pot H' p (M - 2) → H' f = some (.lst (xs ++ [.ref t])) → H' wl = some (.lst (ws.map V.int)) →
      DD All H' (.ref t) (Op.dat ⟨false, v, bg, e⟩) → 0 ≤ v → v ≤ 4 → bg ≤ e → e ≤ bg + room → D.nx [some (.ref p), some (.int most), some (.int room), some (.ref f), some (.ref wl), x5, x6, some (.int v), some (.int bg), y9] H') :
    t__law_wild_2 K D [some (.ref p), some (.int most), some (.int room), some (.ref f), some (.ref wl), x5, x6, some (.int wv), some (.int bg), x9] H := by
  unfold t__law_wild_2
  walk_at "ws_3"
  refine k_lst (by simp; decide) fun z H1 n1 => ?_
  refine o_addL (n1.get hw) n1.at_ (by rw [List.length_map]; exact Nat.le_trans (by simp; omega : ws.length + [V.int 0].length ≤ 2000) (by decide)) fun s H2 n2 => ?_
  walk_at "ws_3"
  refine o_addL n2.at_ n2.at_ (by simp; exact Nat.le_trans (by omega : _ ≤ 5000) (by decide)) fun s2 H3 n3 => ?_
  walk_at "ws_3"
  refine k_lst (by simp; decide) fun z2 H4 n4 => ?_
  refine o_addL (n4.get n3.at_) n4.at_ (by simp; exact Nat.le_trans (by omega : _ ≤ 5000) (by decide)) fun s3 H5 n5 => ?_
  walk_at "ws_3"
  have hp5 := ((((hp.new n1).new n2).new n3).new n4).new n5
  have s3p : s3 ≠ p := fun e => ((((hp.new n1).new n2).new n3).new n4).ne n5.no e.symm
  refine o_any hp5 (by omega) s3p (.inl n5.at_) (by simp; omega) (by simp; omega) fun H6 i v ev kp6 pt6 => ?_
  have hv : ∃ z : Int, v = .int z ∧ 0 ≤ z ∧ z ≤ 4 := by
    have hm := List.mem_of_getElem? ev
    simp only [List.mem_append, List.mem_map, List.mem_cons, List.not_mem_nil, or_false] at hm
    rcases hm with ((⟨y, hy, rfl⟩ | rfl) | (⟨y, hy, rfl⟩ | rfl)) | rfl
    · exact ⟨y, rfl, hws y hy⟩
    · exact ⟨0, rfl, by omega⟩
    · exact ⟨y, rfl, hws y hy⟩
    · exact ⟨0, rfl, by omega⟩
    · exact ⟨wv, rfl, w0, w1⟩
  obtain ⟨z7, rfl, v0, v1⟩ := hv
  have hf6 := kp6.all _ _ (fun z => pf z.symm) (n5.get (n4.get (n3.get (n2.get (n1.get hf)))))
  have hw6 := kp6.all _ _ (fun z => pw z.symm) (n5.get (n4.get (n3.get (n2.get (n1.get hw)))))
  walk_at "ws_3"
  have d0 : 0 ≤ room.fdiv 2 := Int.fdiv_nonneg (by omega) (by omega)
  have d1 : room.fdiv 2 ≤ room := by rw [Int.fdiv_eq_ediv_of_nonneg _ (by omega)]; omega
  refine o_draw pt6 (by omega) (by omega) (by omega) fun H7 k kp7 pt7 k0 k1 => ?_
  have hf7 := kp7.all _ _ (fun z => pf z.symm) hf6
  have hw7 := kp7.all _ _ (fun z => pw z.symm) hw6
  walk_at "ws_3"
  refine k_tup (by simp; decide) fun t H8 n8 => ?_
  walk_at "ws_3"
  refine o_app (n8.get hf7) (Nat.lt_of_le_of_lt lx (by decide)) fun H9 p9 => ?_
  walk_at "ws_3"
  refine q H9 z7 _ t _ ?_ (((pt7.new n8).put p9 pf).le (by omega)) p9.at_ ?_ ((op_new (w := false) n8).keep (p9.keep (S := All) trivial (n8.get hf7))) v0 v1 (by omega) (by omega)
  · have k1 : Keep (fun b => b = p ∨ b = f ∨ b = wl) H H5 := n1.keep.trans (n2.keep.trans (n3.keep.trans (n4.keep.trans n5.keep)))
    exact (((k1.trans (kp6.mono fun b z => .inl z)).trans (kp7.mono fun b z => .inl z)).trans n8.keep).trans (p9.keep (.inr (.inl rfl)) (n8.get hf7))
  · rw [p9.off _ fw.symm, n8.get hw7]
end

def WildI (p f wl : Addr) (most room : Int) (H : Hp) (N i : Nat) (σ : LB.St) (H' : Hp) : Prop := ∃ (ops : List Op) (xs : List V) (x5 x6 x7 x8 x9 : Option V),
      σ = [some (.ref p), some (.int most), some (.int room), some (.ref f), some (.ref wl), x5, x6, x7, x8, x9] ∧ Keep (At p) H H' ∧ Pot H' p (N - 1 - 5 * i) ∧ H' f = some (.lst xs) ∧
      DDs All H' xs (ops.map Op.dat) ∧ H' wl = some (.lst ((wr ops).map V.int)) ∧ LogOk ops ∧ (∀ o ∈ ops, o.v ≤ 4 ∧ 0 ≤ o.b ∧ o.e ≤ 2 * room) ∧ ops.length = i
theorem pure__law_wild {K : PySem.W.Frag} {vs : List V} {H : Hp} {Q : VK} {E : XK} (h : spWild vs H Q E) : t__law_wild K { nx := fun _ H' => Q .non H', rt := Q } (start ["pot", "most", "room", "found", "written", "turn", "kind", "worth", "begin", "some"] vs) H := by
  obtain ⟨p, most, room, N, rfl, pt, m0, m1, r0, r1, hN, q⟩ := h
  show t__law_wild K _ [some (.ref p), some (.int most), some (.int room), none, none, none, none, none, none, none] H
  unfold t__law_wild
  walk_at "ws_3"
  refine k_lst (by simp) fun f H1 n1 => ?_
  walk_at "ws_3"
  refine k_lst (by simp) fun wl H2 n2 => ?_
  walk_at "ws_3"
  have pf : p ≠ f := pt.ne n1.no
  have pw : p ≠ wl := (pt.new n1).ne n2.no
  have fw : f ≠ wl := n2.ne n1.at_
  have w0 : H wl = none := by
    cases e : H wl with
    | none => rfl
    | some o => have := n1.get e; rw [n2.no] at this; cases this
  refine o_draw ((pt.new n1).new n2) (by omega) (by omega) (by omega) fun H3 k kp3 pt3 k0 k1 => ?_
  walk_at "ws_3"
  refine k_R1 (by omega) (by omega) (WildI p f wl most room H N) ?_ ?_ ?_
  · refine ⟨[], [], _, _, _, _, _, rfl, (n1.keep.trans n2.keep).trans kp3, pt3, kp3.all _ _ (fun z => pf z.symm) (n2.get n1.at_), .nil, kp3.all _ _ (fun z => pw z.symm) n2.at_, ⟨fun o ho => by (cases ho), List.Pairwise.nil⟩, fun o ho => by (cases ho), rfl⟩
  · rintro i σ H4 hi ⟨ops, xs, x5, x6, x7, x8, x9, rfl, kp, pt4, hf, hd, hw, lo, ho, hl⟩
    have hlx : xs.length = i := by rw [hd.length, List.length_map, hl]
    have hlw : (wr ops).length ≤ i := by
      unfold wr
      rw [List.length_map]
      exact Nat.le_trans (List.length_filter_le _ _) (by omega)
    have hwv : ∀ z ∈ wr ops, 0 ≤ z ∧ z ≤ 4 := fun z hz => by
      obtain ⟨o, h1, rfl⟩ := List.mem_map.mp hz
      have h2 := (List.mem_filter.mp h1).1
      exact ⟨(lo.1 o h2).2.1, (ho o h2).1⟩
    walk_at "ws_3"
    unfold t__law_wild_3
    walk_at "ws_3"
    refine k_lst (by simp; decide) fun z H5 n5 => ?_
    walk_at "ws_3"
    refine o_any (pt4.new n5) (by omega) (fun e => (pt4.ne n5.no) e.symm) (.inl n5.at_) (by simp) (by simp) fun H6 j v ev kp6 pt6 => ?_
    obtain ⟨w, rfl⟩ := kind_any ev
    walk_at "ws_3"
    refine o_draw pt6 (by omega) (by omega) (by omega) fun H7 wv kp7 pt7 w0' w1' => ?_
    walk_at "ws_3"
    refine o_draw pt7 (by omega) (by omega) (by omega) fun H8 bg kp8 pt8 b0 b1 => ?_
    have k48 : Keep (At p) H4 H8 := ((n5.keep (S := At p)).trans kp6).trans (kp7.trans kp8)
    have hf8 := k48.all _ _ (fun z => pf z.symm) hf
    have hw8 := k48.all _ _ (fun z => pw z.symm) hw
    have hd8 := hd.keep (k48.mono fun _ _ => trivial)
    walk_at "ws_3"
    rw [kind_eq]
    -- the two ends of a turn
    have rd : ∀ D : Ends, (∀ σ H', WildI p f wl most room H N (i + 1) σ H' → D.nx σ H') → t__law_wild_2 K D [some (.ref p), some (.int most), some (.int room), some (.ref f), some (.ref wl), some (.int (0 + i)), some (.str (kindS w)), some (.int wv), some (.int bg), x9] H8 := by
      intro D hD
      refine wild_read (M := N - 1 - 5 * i - 3) (pt8.le (by omega)) (by omega) hf8 hw8 pf pw fw (by omega) (by omega) r0 r1 w0' (by omega) hwv fun H9 v e t y9 k9 pt9 f9 wl9 d9 v0 v1 e0 e1 => ?_
      refine hD _ _ ⟨ops ++ [⟨false, v, bg, e⟩], xs ++ [.ref t], _, _, _, _, _, rfl, (kp.trans k48).trans0 k9 (fun c hc => ?_), pt9.le (by omega), f9, ?_, ?_, ?_, ?_, ?_⟩
      · rcases hc with rfl | rfl | rfl
        · exact .inl rfl
        · exact .inr n1.no
        · exact .inr w0
      · rw [List.map_append]
        exact (hd8.keep (k9.mono fun _ _ => trivial)).snoc d9
      · rw [wr_append]
        show H9 wl = some (HO.lst ((wr ops ++ []).map V.int))
        rw [List.append_nil]
        exact wl9
      · refine ⟨fun o ho => ?_, ?_⟩
        · rcases List.mem_append.mp ho with ho | ho
          · exact lo.1 o ho
          · simp only [List.mem_cons, List.not_mem_nil, or_false] at ho
            subst ho
            exact ⟨fun z => by (cases z), v0, by show v ≤ _; omega, by show _ ≤ bg; omega, e0, by show e ≤ _; omega⟩
        · rw [wr_append]
          show (wr ops ++ []).Nodup
          rw [List.append_nil]
          exact lo.2
      · intro o ho'
        rcases List.mem_append.mp ho' with ho' | ho'
        · exact ho o ho'
        · simp only [List.mem_cons, List.not_mem_nil, or_false] at ho'
          subst ho'
          exact ⟨v1, b0, by show e ≤ _; omega⟩
      · rw [List.length_append, hl]
        rfl
    refine w_iteb (fun hwt => ?_) (fun _ => w_iteF rfl (rd _ fun _ _ h => h))
    subst hwt
    walk_at "ws_3"
    refine w_ite (fun hp0 => ?_) (fun _ => w_iteF rfl (rd _ fun _ _ h => h))
    walk_at "ws_3"
    refine o_niInts hw8 ?_
    walk_at "ws_3"
    by_cases hin : wv ∈ wr ops
    · rw [decide_eq_true hin]
      exact w_iteF rfl (rd _ fun _ _ h => h)
    · rw [decide_eq_false hin]
      refine w_iteT rfl ?_
      refine wild_write (M := N - 1 - 5 * i - 3) (pt8.le (by omega)) (by omega) hf8 hw8 pf pw fw (by omega) (by omega) r0 r1 fun H9 e t k9 pt9 f9 wl9 d9 e0 e1 => ?_
      have hwr : wr (ops ++ [⟨true, wv, bg, e⟩]) = wr ops ++ [wv] := by rw [wr_append]; rfl
      refine ⟨ops ++ [⟨true, wv, bg, e⟩], xs ++ [.ref t], _, _, _, _, _, rfl, (kp.trans k48).trans0 k9 (fun c hc => ?_), pt9.le (by omega), f9, ?_, ?_, ?_, ?_, ?_⟩
      · rcases hc with rfl | rfl | rfl
        · exact .inl rfl
        · exact .inr n1.no
        · exact .inr w0
      · rw [List.map_append]
        exact (hd8.keep (k9.mono fun _ _ => trivial)).snoc d9
      · rw [hwr]
        exact wl9
      · refine ⟨fun o ho => ?_, ?_⟩
        · rcases List.mem_append.mp ho with ho | ho
          · exact lo.1 o ho
          · simp only [List.mem_cons, List.not_mem_nil, or_false] at ho
            subst ho
            exact ⟨fun _ => by show 1 ≤ wv; omega, w0', by show wv ≤ _; omega, by show _ ≤ bg; omega, e0, by show e ≤ _; omega⟩
        · rw [hwr]
          exact List.nodup_append.mpr ⟨lo.2, by simp, fun a ha b hb => by simp at hb; subst hb; exact fun z => hin (z ▸ ha)⟩
      · intro o ho'
        rcases List.mem_append.mp ho' with ho' | ho'
        · exact ho o ho'
        · simp only [List.mem_cons, List.not_mem_nil, or_false] at ho'
          subst ho'
          exact ⟨by show wv ≤ 4; omega, b0, by show e ≤ _; omega⟩
      · rw [List.length_append, hl]
        rfl
  · rintro σ H4 ⟨ops, xs, x5, x6, x7, x8, x9, rfl, kp, pt4, hf, hd, hw, lo, ho, hl⟩
    have hlx : xs.length = k.toNat := by rw [hd.length, List.length_map, hl]
    walk_at "ws_3"
    refine ⟨p, f, xs, ops.map Op.dat, _, rfl, pt4, by omega, pf.symm, .inl hf, by omega, hd, fun d hd => ?_, fun H5 g ys pm g0 hg kp5 pt5 => ?_⟩
    · obtain ⟨o, _, rfl⟩ := List.mem_map.mp hd
      exact o.lay
    · walk_at "ws_3"
      refine o_tupof hg fun t H6 n6 => ?_
      obtain ⟨es, pe, de⟩ := hd.perm pm
      obtain ⟨bs, eb, pb⟩ := perm_map_inv pe rfl
      subst eb
      refine q H6 t bs ((kp.trans kp5).trans n6.keep) ((pt5.new n6).le (by omega)) (.tup n6.at_ ((de.keep (kp5.mono fun _ _ => trivial)).keep n6.keep)) (lo.perm pb) ?_ fun o ho' => ho o (pb.mem_iff.mpr ho')
      rw [← pb.length_eq, hl]
      omega
end LB

open PySem PySem.Spec PyProof.Rows L2 LB
/-! the tactic: one step of a reading; many -/
local macro_rules | `(tactic| walk_at "w1_4") => `(tactic| first
  | with_reducible refine w_seq ?_ | with_reducible refine w_asg ?_ | with_reducible refine w_drop ?_ | with_reducible refine w_ret ?_ | with_reducible refine w_next ?_
  | with_reducible refine w_ifs ?_ | with_reducible refine w_forR1 ?_ | with_reducible refine w_forR2 ?_ | with_reducible refine w_forL ?_ | with_reducible refine w_forT ?_ | with_reducible refine w_name ?_ | with_reducible refine w_sub ?_ | with_reducible refine w_par ?_
  | with_reducible refine w_var (by with_unfolding_all rfl) ?_ | with_reducible refine w_c ?_ | with_reducible refine w_op ?_ | with_reducible refine w_un ?_
  | with_reducible refine w_test ?_ | with_reducible refine w_tb ?_ | with_reducible refine w_nil ?_ | with_reducible refine w_cons ?_ | with_reducible refine w_cb ?_ | with_reducible refine w_call ?_
  | with_reducible refine w_not ?_ | with_reducible refine w_and ?_ | with_reducible refine w_or ?_ | with_reducible refine w_andV ?_ | with_reducible refine w_orV ?_ | with_reducible refine w_notV ?_
  | with_reducible refine w_ife ?_ | with_reducible refine w_chain ?_ | with_reducible refine w_bm ?_ | with_reducible refine w_sl ?_ | with_reducible refine w_part ?_ | with_reducible refine w_nopart ?_
  | with_reducible refine w_exb ?_ | with_reducible refine w_exi ?_ | with_reducible refine w_ex2 ?_ | with_reducible refine w_ex3 ?_ | with_reducible refine w_lstrg ?_ | with_reducible refine w_rg2 ?_ | with_reducible refine w_rg1 ?_ | with_reducible refine w_exij ?_ | with_reducible refine w_tup ?_ | with_reducible refine w_lst ?_
  | with_reducible refine o_add ?_ | with_reducible refine o_sub ?_ | with_reducible refine o_neg ?_ | with_reducible refine o_lt ?_ | with_reducible refine o_le ?_ | with_reducible refine o_gt ?_ | with_reducible refine o_ge ?_
  | with_reducible refine o_ixL (by assumption) (by decide) (by with_unfolding_all rfl) ?_ | with_reducible refine o_ixT (by assumption) (by decide) (by with_unfolding_all rfl) ?_
  | with_reducible refine o_mod (by first | decide | omega) ?_ | with_reducible refine o_mul (by first | decide | omega) ?_ | with_reducible refine o_fdv (by first | decide | omega) (by first | decide | omega) ?_ | with_reducible refine o_setL (by assumption) (by decide) (by simp) ?_
  | with_reducible refine oo_addi ?_ | with_reducible refine oo_sub ?_ | with_reducible refine oo_neg ?_ | with_reducible refine w_rev ?_ | with_reducible refine w_m0 ?_
  | with_reducible refine w_par3 ?_ | with_reducible refine w_tyl (by assumption) ?_
  | with_reducible refine o_abs ?_ | with_reducible refine o_eqs (by with_unfolding_all rfl) ?_ | with_reducible refine o_nes (by with_unfolding_all rfl) ?_ | with_reducible refine o_max2 ?_ | with_reducible refine o_min2 ?_ | with_reducible refine o_isiX (by assumption) ?_ | with_reducible refine o_lenl (by assumption) ?_ | with_reducible refine o_lent (by assumption) ?_ | with_reducible refine o_int1b ?_)
local macro_rules | `(tactic| walk_at "ws_4") => `(tactic| repeat (first | walk_at "w1_4" | dsimp only [List.set_cons_zero, List.set_cons_succ]))
namespace LB
def t__law_true_1 (K : PySem.W.Frag) : TS :=
  (tSeq (tAsg (tTup (tCons (tOp rSubI (tVar 6) (tCall spDraw [] E0 (tCons (tVar 0) (tCons (tOp (rAddA K) (tVar 3) (tC (V.int 1))) tNil)))) (tCons (tOp (rAddA K) (tVar 6) (tCall spDraw [] E0 (tCons (tVar 0) (tCons (tOp (rAddA K) (tVar 3) (tC (V.int 1))) tNil)))) tNil))) (gName 10))
    (tSeq (tAsg (tOp (rAddA K) (tOp rSubI (tOp (rIx K) (tVar 10) (tC (V.int 0))) (tVar 2)) (tCall spDraw [] E0 (tCons (tVar 0) (tCons (tOp (rAddA K) (tOp (rMulA K) (tC (V.int 2)) (tVar 2)) (tC (V.int 1))) tNil)))) (gName 11))
    (tSeq (tAsg (tOp (rAddA K) (tOp rSubI (tOp (rIx K) (tVar 10) (tC (V.int 1))) (tVar 2)) (tCall spDraw [] E0 (tCons (tVar 0) (tCons (tOp (rAddA K) (tOp (rMulA K) (tC (V.int 2)) (tVar 2)) (tC (V.int 1))) tNil)))) (gName 12))
    (tDrop (tBM K "list" rAppend (tVar 4) (tCons (tTup (tCons (tVar 9) (tCons (tVar 5) (tCons (tCB rMin2 (tCons (tVar 11) (tCons (tVar 12) tNil))) (tCons (tCB rMax2 (tCons (tVar 11) (tCons (tVar 12) tNil))) tNil))))) tNil))))))

def t__law_true_2 (K : PySem.W.Frag) : TS :=
  (tSeq (tAsg (tOp (rAddA K) (tVar 6) (tCall spDraw [] E0 (tCons (tVar 0) (tCons (tOp (rAddA K) (tVar 3) (tC (V.int 1))) tNil)))) (gName 6))
    (tSeq (tAsg (tCall (spAny K) [] E0 (tCons (tVar 0) (tCons (tLst (tCons (tC (V.str "write")) (tCons (tC (V.str "read")) (tCons (tC (V.str "read")) tNil)))) tNil))) (gName 9))
    (tSeq (tIfS (tTest (tOp (rEqA K) (tVar 9) (tC (V.str "write"))))
    (tAsg (tOp (rIx K) (tVar 7) (tVar 8)) (gName 5)) tNext)
    (t__law_true_1 K))))

def t__law_true (K : PySem.W.Frag) : TS :=
  (tSeq (tPar3 4 5 6 (tCons (tLst tNil) (tCons (tC (V.int 0)) (tCons (tCall (spAny K) [] E0 (tCons (tVar 0) (tCons (tLst (tCons (tC (V.int 0)) (tCons (tUn rNegI (tC (V.int 7))) (tCons (tOp rPowI (tC (V.int 10)) (tC (V.int 14))) tNil)))) tNil))) tNil))))
    (tSeq (tAsg (tCall (spMixed K) [] E0 (tCons (tVar 0) (tCons (tLstRg (tRg2 (tC (V.int 1)) (tOp (rAddA K) (tVar 1) (tC (V.int 1))))) tNil))) (gName 7))
    (tSeq (tFor (iRng1 (tCons (tVar 1) tNil)) (gName 8)
    (t__law_true_2 K))
    (tRet (tCB (rTupOf K) (tCons (tCall (spMixed K) [] E0 (tCons (tVar 0) (tCons (tVar 4) tNil))) tNil))))))

def TrueI (p f g : Addr) (many off step : Int) (ns : List Int) (H : Hp) (N i : Nat) (σ : LB.St) (H' : Hp) : Prop := ∃ (ops : List Op) (xs : List V) (wv tm : Int) (x8 x9 x10 x11 x12 : Option V),
      σ = [some (.ref p), some (.int many), some (.int off), some (.int step), some (.ref f), some (.int wv), some (.int tm), some (.ref g), x8, x9, x10, x11, x12] ∧ Keep (At p) H H' ∧ Pot H' p (N - 6 * i) ∧ H' f = some (.lst xs) ∧
      DDs All H' xs (ops.map Op.dat) ∧ H' g = some (.lst (ns.map V.int)) ∧ LogOk ops ∧ (∀ z ∈ wr ops, ∃ j, j < i ∧ ns[j]? = some z) ∧ (∀ o ∈ ops, o.v ≤ many ∧ -100000000 ≤ o.b ∧ o.e ≤ 100000100000000) ∧ ops.length = i ∧ 0 ≤ wv ∧ wv ≤ many ∧ -7 ≤ tm ∧ tm ≤ 100000000000000 + i * step
theorem rg_map (n : Nat) : rgV 1 ((n : Int) + 1) = ((List.range n).map fun i => (1 : Int) + (i : Nat)).map V.int := by
  unfold rgV
  rw [List.map_map, show ((n : Int) + 1 - 1).toNat = n by omega]
  rfl
theorem range_nodup (n : Nat) : ((List.range n).map fun i => (1 : Int) + (i : Nat)).Nodup := by
  refine List.Pairwise.map _ (fun a b h e => h ?_) (List.nodup_range)
  have e : (1 : Int) + (a : Nat) = 1 + (b : Nat) := e
  omega
theorem ints_dds {S : Addr → Prop} {H : Hp} : ∀ ns : List Int, DDs S H (ns.map V.int) (ns.map PyData.int)
  | [] => .nil
  | n :: ns => .cons (.int n) (ints_dds ns)
theorem start_any {i : Nat} {v : V} (h : [V.int 0, V.int (-7), V.int 100000000000000][i]? = some v) : ∃ z : Int, v = .int z ∧ -7 ≤ z ∧ z ≤ 100000000000000 := by
  match i, h with
  | 0, h => exact ⟨0, (Option.some.inj h).symm, by omega, by omega⟩
  | 1, h => exact ⟨-7, (Option.some.inj h).symm, by omega, by omega⟩
  | 2, h => exact ⟨_, (Option.some.inj h).symm, by omega, by omega⟩
theorem perm_ints {ns : List Int} {ys : List V} (p : (ns.map V.int).Perm ys) : ∃ ms : List Int, ys = ms.map V.int ∧ ns.Perm ms := perm_map_inv p rfl
theorem pure__law_true {K : PySem.W.Frag} {vs : List V} {H : Hp} {Q : VK} {E : XK} (h : spTrue vs H Q E) : t__law_true K { nx := fun _ H' => Q .non H', rt := Q } (start ["pot", "many", "off", "step", "found", "worth", "time", "names", "turn", "kind", "ends", "begin", "end"] vs) H := by
  obtain ⟨p, many, off, step, N, rfl, pt, m0, m1, o0, o1, s0, s1, hN, q⟩ := h
  show t__law_true K _ [some (.ref p), some (.int many), some (.int off), some (.int step), none, none, none, none, none, none, none, none, none] H
  unfold t__law_true
  walk_at "ws_4"
  refine k_lst (by simp) fun f H1 n1 => ?_
  walk_at "ws_4"
  refine o_pow ⟨by decide, by decide +kernel⟩ ?_
  walk_at "ws_4"
  rw [show (10 : Int) ^ (14 : Int).toNat = 100000000000000 by decide +kernel]
  refine k_lst (by simp; decide) fun z0 H2 n2 => ?_
  walk_at "ws_4"
  have pf : p ≠ f := pt.ne n1.no
  refine o_any ((pt.new n1).new n2) (by omega) (fun e => ((pt.new n1).ne n2.no) e.symm) (.inl n2.at_) (by simp) (by simp) fun H3 j v ev kp3 pt3 => ?_
  obtain ⟨tm, rfl, t0, t1⟩ := start_any ev
  walk_at "ws_4"
  have hf3 := kp3.all _ _ (fun z => pf z.symm) (n2.get n1.at_)
  obtain ⟨n, rfl⟩ := Int.eq_ofNat_of_zero_le m0
  refine k_lr (RgOk.of_le (by omega) (by omega) (by omega) (by omega)) fun l H4 n4 => ?_
  walk_at "ws_4"
  rw [rg_map] at n4
  have pt4 := pt3.new n4
  refine ⟨p, l, _, ((List.range n).map fun i => (1 : Int) + (i : Nat)).map PyData.int, _, rfl, pt4, by simp; omega, fun e => (pt3.ne n4.no) e.symm, .inl n4.at_, by simp; omega, ints_dds _, fun d hd => ?_, fun H5 g ys pm g0 hg kp5 pt5 => ?_⟩
  · obtain ⟨z, _, rfl⟩ := List.mem_map.mp hd
    exact ⟨by simp only [PyData.canLay0], by simp only [PyData.depth]; omega⟩
  obtain ⟨ns, rfl, pn⟩ := perm_ints pm
  have hnd : ns.Nodup := pn.nodup_iff.mp (range_nodup n)
  have hnb : ∀ z ∈ ns, 1 ≤ z ∧ z ≤ n := fun z hz => by
    obtain ⟨i, hi, rfl⟩ := List.mem_map.mp (pn.mem_iff.mpr hz)
    have := List.mem_range.mp hi
    omega
  have hnl : ns.length = n := by rw [← pn.length_eq, List.length_map, List.length_range]
  simp only [List.length_map, List.length_range] at pt5
  have hf5 := kp5.all _ _ (fun z => pf z.symm) (n4.get hf3)
  have k05 : Keep (At p) H H5 := ((n1.keep.trans n2.keep).trans kp3).trans ((n4.keep).trans kp5)
  have pg : p ≠ g := pt4.ne g0
  have fg : f ≠ g := fun e => by
    have := n4.get hf3
    rw [e, g0] at this
    cases this
  have g0' : H g = none := by
    cases e : H g with
    | none => rfl
    | some o =>
      have e4 : H4 g = some o := n4.get (kp3.all _ _ (fun z => pg z.symm) (n2.get (n1.get e)))
      rw [g0] at e4
      cases e4
  walk_at "ws_4"
  refine k_R1 (by omega) (by omega) (TrueI p f g n off step ns H (N - 1 - n)) ?_ ?_ ?_
  · exact ⟨[], [], 0, tm, _, _, _, _, _, rfl, k05, pt5, hf5, .nil, hg, ⟨fun o ho => by (cases ho), List.Pairwise.nil⟩, fun z hz => by (cases hz), fun o ho => by (cases ho), rfl, by omega, by omega, t0, by omega⟩
  · rintro i σ H6 hi ⟨ops, xs, wv, tm, x8, x9, x10, x11, x12, rfl, kp, pt6, hf, hd, hgg, lo, hin, ho, hl, w0, w1, t0, t1⟩
    have hi' : i < n := by omega
    have hlx : xs.length = i := by rw [hd.length, List.length_map, hl]
    have hstep : (i : Int) * step ≤ 200 * 1000 := Int.mul_le_mul (by omega) s1 s0 (by omega)
    have hstep1 : ((i + 1 : Nat) : Int) * step = i * step + step := by
      have : ((i + 1 : Nat) : Int) = (i : Int) + 1 := by omega
      rw [this, Int.add_mul, Int.one_mul]
    walk_at "ws_4"
    unfold t__law_true_2
    walk_at "ws_4"
    refine o_draw pt6 (by omega) (by omega) (by omega) fun H7 k kp7 pt7 k0 k1 => ?_
    walk_at "ws_4"
    refine k_lst (by simp; decide) fun z H8 n8 => ?_
    walk_at "ws_4"
    refine o_any (pt7.new n8) (by omega) (fun e => (pt7.ne n8.no) e.symm) (.inl n8.at_) (by simp) (by simp) fun H9 j v ev kp9 pt9 => ?_
    obtain ⟨w, rfl⟩ := kind_any ev
    have k69 : Keep (At p) H6 H9 := (kp7.trans n8.keep).trans kp9
    have hf9 := k69.all _ _ (fun z => pf z.symm) hf
    have hg9 := k69.all _ _ (fun z => pg z.symm) hgg
    have hd9 := hd.keep (k69.mono fun _ _ => trivial)
    walk_at "ws_4"
    rw [kind_eq]
    -- the value of the operation, then the rest of the turn
    have hni : ns[i]? = some ns[i] := List.getElem?_eq_getElem (by omega)
    have rest : ∀ (D : Ends) (wv' : Int), 0 ≤ wv' → wv' ≤ n → (w = true → wv' = ns[i]) → (∀ σ H', TrueI p f g n off step ns H (N - 1 - n) (i + 1) σ H' → D.nx σ H') →
        t__law_true_1 K D [some (.ref p), some (.int n), some (.int off), some (.int step), some (.ref f), some (.int wv'), some (.int (tm + k)), some (.ref g), some (.int (0 + i)), some (.str (kindS w)), x10, x11, x12] H9 := by
      intro D wv' a0 a1 aw hD
      unfold t__law_true_1
      walk_at "ws_4"
      refine o_draw pt9 (by omega) (by omega) (by omega) fun H10 e1 kp10 pt10 e10 e11 => ?_
      walk_at "ws_4"
      refine o_draw pt10 (by omega) (by omega) (by omega) fun H11 e2 kp11 pt11 e20 e21 => ?_
      walk_at "ws_4"
      refine k_tup (by simp; decide) fun u H12 n12 => ?_
      have pt12 := pt11.new n12
      walk_at "ws_4"
      refine o_ixT n12.at_ (by decide) rfl ?_
      walk_at "ws_4"
      refine o_draw pt12 (by omega) (by omega) (by omega) fun H13 e3 kp13 pt13 e30 e31 => ?_
      have hu13 := kp13.tup _ _ n12.at_
      walk_at "ws_4"
      refine o_draw pt13 (by omega) (by omega) (by omega) fun H14 e4 kp14 pt14 e40 e41 => ?_
      have k914 : Keep (At p) H9 H14 := ((kp10.trans kp11).trans (n12.keep.trans kp13)).trans kp14
      have hf14 := k914.all _ _ (fun z => pf z.symm) hf9
      have hg14 := k914.all _ _ (fun z => pg z.symm) hg9
      have hd14 := hd9.keep (k914.mono fun _ _ => trivial)
      walk_at "ws_4"
      generalize hb : (tm + k - e1 - off + e3) = bg
      generalize he : (tm + k + e2 - off + e4) = en
      refine k_tup (by simp; decide) fun t H15 n15 => ?_
      walk_at "ws_4"
      refine o_app (n15.get hf14) (Nat.lt_of_le_of_lt (by omega : xs.length ≤ 1000) (by decide)) fun H16 p16 => ?_
      walk_at "ws_4"
      have dn : DD All H16 (.ref t) (Op.dat ⟨w, wv', if en < bg then en else bg, if en > bg then en else bg⟩) := (op_new n15).keep (p16.keep (S := All) trivial (n15.get hf14))
      have b1 : (if en < bg then en else bg) ≤ (if en > bg then en else bg) := by split <;> split <;> omega
      have b2 : -100000000 ≤ (if en < bg then en else bg) := by split <;> omega
      have b3 : (if en > bg then en else bg) ≤ 100000100000000 := by split <;> omega
      have hwr : wr (ops ++ [⟨w, wv', if en < bg then en else bg, if en > bg then en else bg⟩]) = if w = true then wr ops ++ [wv'] else wr ops := by
        rw [wr_append]
        cases w
        · show wr ops ++ [] = _
          rw [List.append_nil, if_neg (by simp)]
        · rfl
      refine hD _ _ ⟨ops ++ [⟨w, wv', if en < bg then en else bg, if en > bg then en else bg⟩], xs ++ [.ref t], wv', tm + k, _, _, _, _, _, rfl, ?_, ((pt14.new n15).put p16 pf).le (by omega), p16.at_, ?_, ?_, ?_, ?_, ?_, ?_, a0, a1, by omega, by omega⟩
      · exact p16.keep0 (((kp.trans k69).trans k914).trans n15.keep) n1.no (n15.get hf14)
      · rw [List.map_append]
        exact ((hd14.keep n15.keep).keep (p16.keep (S := All) trivial (n15.get hf14))).snoc dn
      · exact p16.get fg.symm (n15.get hg14)
      · refine ⟨fun o ho' => ?_, ?_⟩
        · rcases List.mem_append.mp ho' with ho' | ho'
          · exact lo.1 o ho'
          · simp only [List.mem_cons, List.not_mem_nil, or_false] at ho'
            subst ho'
            refine ⟨fun hw => ?_, a0, by show wv' ≤ _; omega, by show _ ≤ (if en < bg then en else bg); omega, b1, by show (if en > bg then en else bg) ≤ _; omega⟩
            have := hnb _ (List.mem_of_getElem? hni)
            have e := aw hw
            show 1 ≤ wv'
            omega
        · rw [hwr]
          split
          · rename_i hw
            refine List.nodup_append.mpr ⟨lo.2, by simp, fun a ha b hb' => ?_⟩
            simp at hb'
            subst hb'
            intro e
            obtain ⟨j, hj, ej⟩ := hin a ha
            rw [e, aw hw, ← hni] at ej
            have := (List.getElem?_inj (i := j) (j := i) (by omega) hnd).mp ej
            omega
          · exact lo.2
      · intro z hz
        rw [hwr] at hz
        split at hz
        · rename_i hw
          rcases List.mem_append.mp hz with hz | hz
          · obtain ⟨j, hj, ej⟩ := hin z hz
            exact ⟨j, by omega, ej⟩
          · simp at hz
            subst hz
            exact ⟨i, by omega, by rw [aw hw]; exact hni⟩
        · obtain ⟨j, hj, ej⟩ := hin z hz
          exact ⟨j, by omega, ej⟩
      · intro o ho'
        rcases List.mem_append.mp ho' with ho' | ho'
        · exact ho o ho'
        · simp only [List.mem_cons, List.not_mem_nil, or_false] at ho'
          subst ho'
          exact ⟨a1, b2, b3⟩
      · rw [List.length_append, hl]
        rfl
    refine w_iteb (fun hw => ?_) (fun hw => ?_)
    · walk_at "ws_4"
      refine o_ixL (v := .int ns[i]) hg9 (by omega) (by rw [show (0 + (i : Int)).toNat = i by omega, List.getElem?_map, hni]; rfl) ?_
      walk_at "ws_4"
      have := hnb _ (List.mem_of_getElem? hni)
      exact rest _ _ (by omega) (by omega) (fun _ => rfl) fun _ _ h => h
    · walk_at "ws_4"
      exact rest _ _ w0 w1 (fun h => by rw [h] at hw; cases hw) fun _ _ h => h
  · rintro σ H6 ⟨ops, xs, wv, tm, x8, x9, x10, x11, x12, rfl, kp, pt6, hf, hd, hgg, lo, hin, ho, hl, w0, w1, t0, t1⟩
    have hlx : xs.length = n := by rw [hd.length, List.length_map, hl]; omega
    walk_at "ws_4"
    refine ⟨p, f, xs, ops.map Op.dat, _, rfl, pt6, by omega, pf.symm, .inl hf, by omega, hd, fun d hd => ?_, fun H7 g' ys pm g0 hg kp7 pt7 => ?_⟩
    · obtain ⟨o, _, rfl⟩ := List.mem_map.mp hd
      exact o.lay
    · walk_at "ws_4"
      refine o_tupof hg fun t H8 n8 => ?_
      obtain ⟨es, pe, de⟩ := hd.perm pm
      obtain ⟨bs, eb, pb⟩ := perm_map_inv pe rfl
      subst eb
      refine q H8 t bs ((kp.trans kp7).trans n8.keep) ((pt7.new n8).le (by omega)) (.tup n8.at_ ((de.keep (kp7.mono fun _ _ => trivial)).keep n8.keep)) (lo.perm pb) ?_ fun o ho' => ho o (pb.mem_iff.mpr ho')
      rw [← pb.length_eq, hl]
end LB

namespace LB
open PySem PySem.Spec PyProof.Rows L2
/-! ### data that repr shows: how big -/
mutual
def okD (n : Nat) : PyData → Prop
  | .none => True
  | .bool _ => True
  | .int i => i.natAbs ≤ 10 ^ 30 + n
  | .str x => ∀ c ∈ x.cps.toList, c < 128
  | .list xs => okAll n xs
  | .tuple xs => okAll n xs
  | .dict kvs => kvs = []
def okAll (n : Nat) : List PyData → Prop
  | [] => True
  | x :: xs => okD n x ∧ okAll n xs
end
theorem okAll_iff {n : Nat} : ∀ {xs : List PyData}, okAll n xs ↔ ∀ d ∈ xs, okD n d
  | [] => by simp [okAll]
  | x :: xs => by simp [okAll, okAll_iff (xs := xs)]
mutual
theorem okD_mono {n m : Nat} (h : n ≤ m) : ∀ {d : PyData}, okD n d → okD m d
  | .none, _ => by simp only [okD]
  | .bool _, _ => by simp only [okD]
  | .int i, e => by simp only [okD] at e ⊢; omega
  | .str x, e => by simp only [okD] at e ⊢; exact e
  | .list xs, e => by simp only [okD] at e ⊢; exact okAll_mono h e
  | .tuple xs, e => by simp only [okD] at e ⊢; exact okAll_mono h e
  | .dict _, e => by simp only [okD] at e ⊢; exact e
theorem okAll_mono {n m : Nat} (h : n ≤ m) : ∀ {xs : List PyData}, okAll n xs → okAll m xs
  | [], _ => by simp only [okAll]
  | x :: xs, e => by simp only [okAll] at e ⊢; exact ⟨okD_mono h e.1, okAll_mono h e.2⟩
end
theorem wAll_append : ∀ {xs ys : List PyData}, PyData.weightAll (xs ++ ys) = PyData.weightAll xs + PyData.weightAll ys
  | [], ys => by simp [PyData.weightAll]
  | x :: xs, ys => by simp only [List.cons_append, PyData.weightAll, wAll_append (xs := xs)]; omega
theorem wAll_take {xs : List PyData} {k : Nat} : PyData.weightAll (xs.take k) + PyData.weightAll (xs.drop k) = PyData.weightAll xs := by
  rw [← wAll_append, List.take_append_drop]
theorem wAll_rev : ∀ {xs : List PyData}, PyData.weightAll xs.reverse = PyData.weightAll xs
  | [] => rfl
  | x :: xs => by rw [List.reverse_cons, wAll_append, wAll_rev (xs := xs)]; simp only [PyData.weightAll]; omega
theorem wAll_cut {xs : List PyData} {lo hi : Option Int} : PyData.weightAll (cutD xs lo hi) ≤ PyData.weightAll xs := by
  unfold cutD
  have h1 := wAll_take (xs := xs.drop (HT.sIx xs.length 0 lo)) (k := HT.sIx xs.length xs.length hi - HT.sIx xs.length 0 lo)
  have h2 := wAll_take (xs := xs) (k := HT.sIx xs.length 0 lo)
  omega
theorem wAll_len : ∀ {xs : List PyData}, xs.length ≤ PyData.weightAll xs
  | [] => by simp
  | x :: xs => by simp only [List.length_cons, PyData.weightAll]; have := wAll_len (xs := xs); omega
theorem wAll_mem : ∀ {xs : List PyData} {d : PyData}, d ∈ xs → d.weight + 1 ≤ PyData.weightAll xs
  | x :: xs, d, h => by
    simp only [PyData.weightAll]
    rcases List.mem_cons.mp h with rfl | h
    · omega
    · have := wAll_mem h; omega
theorem dpAll_mem : ∀ {xs : List PyData} {d : PyData}, d ∈ xs → d.depth ≤ PyData.depthAll xs
  | x :: xs, d, h => by
    simp only [PyData.depthAll]
    rcases List.mem_cons.mp h with rfl | h
    · omega
    · have := dpAll_mem h; omega
structure Nice (n k w : Nat) (d : PyData) : Prop where
  ok : okD n d
  dp : d.depth ≤ k
  wt : d.weight ≤ w
theorem Nice.mono {n k w n' k' w' : Nat} {d : PyData} (h : Nice n k w d) (h1 : n ≤ n') (h2 : k ≤ k') (h3 : w ≤ w') : Nice n' k' w' d :=
  ⟨okD_mono h1 h.ok, by have := h.dp; omega, by have := h.wt; omega⟩
theorem nice_non {n k w : Nat} : Nice n k w .none := ⟨by simp only [okD], by simp only [PyData.depth]; omega, by simp only [PyData.weight]; omega⟩
theorem nice_bl {n k w : Nat} {b : Bool} : Nice n k w (.bool b) := ⟨by simp only [okD], by simp only [PyData.depth]; omega, by simp only [PyData.weight]; omega⟩
theorem log_ok {i : Int} {n : Nat} (h : i.natAbs ≤ 10 ^ 30 + n) (hn : n ≤ 10 ^ 30) : i.natAbs.log2 < 101 := by
  by_cases h0 : i.natAbs = 0
  · rw [h0]; decide
  · refine (Nat.log2_lt h0).mpr ?_
    have : (10 : Nat) ^ 30 + 10 ^ 30 < 2 ^ 101 := by decide +kernel
    omega
theorem nice_int {n k w : Nat} {i : Int} (h : i.natAbs ≤ 10 ^ 30 + n) (hn : n ≤ 10 ^ 30) (hw : 101 ≤ w) : Nice n k w (.int i) := by
  refine ⟨by simp only [okD]; exact h, by simp only [PyData.depth]; omega, ?_⟩
  simp only [PyData.weight]
  have := log_ok h hn
  split <;> omega
theorem nice_str {n k w : Nat} {x : Str} (h : ∀ c ∈ x.cps.toList, c < 128) (hw : x.length ≤ w) : Nice n k w (.str x) :=
  ⟨by simp only [okD]; exact h, by simp only [PyData.depth]; omega, by simp only [PyData.weight]; exact hw⟩
theorem nice_dict {n k w : Nat} : Nice n (k + 1) w (.dict []) := ⟨by simp only [okD], by simp only [PyData.depth, PyData.depthKv]; omega, by simp only [PyData.weight, PyData.weightKv]; omega⟩
theorem nice_list {n k w : Nat} {ds : List PyData} (h : ∀ d ∈ ds, okD n d) (hd : ∀ d ∈ ds, d.depth ≤ k) (hw : PyData.weightAll ds ≤ w) : Nice n (k + 1) w (.list ds) :=
  ⟨by simp only [okD]; exact okAll_iff.mpr h, by simp only [PyData.depth]; have := depthAll_of hd; omega, by simp only [PyData.weight]; exact hw⟩
theorem nice_tup {n k w : Nat} {ds : List PyData} (h : ∀ d ∈ ds, okD n d) (hd : ∀ d ∈ ds, d.depth ≤ k) (hw : PyData.weightAll ds ≤ w) : Nice n (k + 1) w (.tuple ds) :=
  ⟨by simp only [okD]; exact okAll_iff.mpr h, by simp only [PyData.depth]; have := depthAll_of hd; omega, by simp only [PyData.weight]; exact hw⟩
theorem Nice.items {n k w : Nat} {ds : List PyData} (h : Nice n k w (.tuple ds)) : (∀ d ∈ ds, okD n d) ∧ (∀ d ∈ ds, d.depth + 1 ≤ k) ∧ PyData.weightAll ds ≤ w := by
  obtain ⟨h1, h2, h3⟩ := h
  simp only [okD] at h1
  simp only [PyData.depth] at h2
  simp only [PyData.weight] at h3
  exact ⟨okAll_iff.mp h1, fun d hd => by have := dpAll_mem hd; omega, h3⟩
/-! ### what repr asks -/
mutual
theorem okD_short {n : Nat} (hn : n ≤ 10 ^ 30) : ∀ {d : PyData}, okD n d → d.leavesShort 40 = true ∧ d.showable = true
  | .none, _ => by simp only [PyData.leavesShort, PyData.showable]; simp
  | .bool _, _ => by simp only [PyData.leavesShort, PyData.showable]; simp
  | .int i, h => by
    simp only [okD] at h
    have h1 := log_ok h hn
    have h2 : (toString i).length ≤ 32 + 1 := int_text_length_le10 (k := 32) (by decide) (by
      have : (10 : Nat) ^ 30 + 10 ^ 30 < 10 ^ 32 := by decide +kernel
      omega)
    simp only [PyData.leavesShort, PyData.showable, decide_eq_true_eq]
    refine ⟨?_, by omega⟩
    show (Str.ofString (toString i)).length ≤ 40
    rw [PySem.ofString_length]
    omega
  | .str x, h => by
    simp only [okD] at h
    simp only [PyData.leavesShort, PyData.showable, List.all_eq_true, decide_eq_true_eq, and_true]
    intro c hc
    have := h c hc
    have : (16 : Nat) ^ 8 = 4294967296 := by decide
    omega
  | .list xs, h => by simp only [okD] at h; simp only [PyData.leavesShort, PyData.showable]; exact okAll_short hn h
  | .tuple xs, h => by simp only [okD] at h; simp only [PyData.leavesShort, PyData.showable]; exact okAll_short hn h
  | .dict _, h => by simp only [okD] at h; subst h; simp only [PyData.leavesShort, PyData.showable, PyData.leavesShortKv, PyData.showableKv]; simp
theorem okAll_short {n : Nat} (hn : n ≤ 10 ^ 30) : ∀ {xs : List PyData}, okAll n xs → PyData.leavesShortAll 40 xs = true ∧ PyData.showableAll xs = true
  | [], _ => by simp only [PyData.leavesShortAll, PyData.showableAll]; simp
  | x :: xs, h => by
    simp only [okAll] at h
    have h1 := okD_short hn h.1
    have h2 := okAll_short hn h.2
    simp only [PyData.leavesShortAll, PyData.showableAll, h1.1, h1.2, h2.1, h2.2, Bool.and_self, and_self]
end
theorem Nice.shows {n k w : Nat} {d : PyData} (h : Nice n k w d) (hn : n ≤ 1000) (hk : k ≤ 60) (hw : w ≤ 300000) : d.showable = true ∧ d.depth ≤ 60 ∧ d.shown.length ≤ sizeLine := by
  have h1 := okD_short (n := n) (by have : (1000 : Nat) ≤ 10 ^ 30 := by decide +kernel
                                    omega) h.ok
  refine ⟨h1.2, by have := h.dp; omega, ?_⟩
  have h2 := PyData.shown_le 40 (by decide) d h1.1
  have h3 := h.wt
  have h4 : (40 + 2) * d.weight ≤ 42 * 300000 := Nat.mul_le_mul (by decide) (by omega)
  have h5 : 42 * 300000 + 40 ≤ sizeLine := by decide
  omega
/-! ### values that stand for such data -/
def Good (S : Addr → Prop) (H : Hp) (n k w : Nat) (v : V) : Prop := ∃ d, DD S H v d ∧ Nice n k w d
theorem Good.keep {S : Addr → Prop} {H H' : Hp} {n k w : Nat} {v : V} (h : Good S H n k w v) (e : Keep S H H') : Good S H' n k w v := let ⟨d, h1, h2⟩ := h; ⟨d, h1.keep e, h2⟩
theorem Good.mono {S : Addr → Prop} {H : Hp} {n k w n' k' w' : Nat} {v : V} (h : Good S H n k w v) (h1 : n ≤ n') (h2 : k ≤ k') (h3 : w ≤ w') : Good S H n' k' w' v := let ⟨d, e1, e2⟩ := h; ⟨d, e1, e2.mono h1 h2 h3⟩
section
variable {S : Addr → Prop} {H H1 : Hp} {n k w : Nat} {K : PySem.W.Frag} {Q : VK}
theorem good_non : Good S H n k w .non := ⟨_, .non, nice_non⟩
theorem good_bl {b : Bool} : Good S H n k w (.bl b) := ⟨_, .bl b, nice_bl⟩
theorem good_int {i : Int} (h : i.natAbs ≤ 10 ^ 30 + n) (hn : n ≤ 10 ^ 30) (hw : 101 ≤ w) : Good S H n k w (.int i) := ⟨_, .int i, nice_int h hn hw⟩
theorem good_str {x : Str} (h : ∀ c ∈ x.cps.toList, c < 128) (hw : x.length ≤ w) : Good S H n k w (.str x) := ⟨_, .str x, nice_str h hw⟩
theorem good_tup {a : Addr} {xs : List V} {ds : List PyData} (e : H a = some (.tup xs)) (hd : DDs S H xs ds) (h : Nice n k w (.tuple ds)) : Good S H n k w (.ref a) := ⟨_, .tup e hd, h⟩
theorem good_lst {a : Addr} {xs : List V} {ds : List PyData} (ha : ¬ S a) (e : H a = some (.lst xs)) (hd : DDs S H xs ds) (h : Nice n k w (.list ds)) : Good S H n k w (.ref a) := ⟨_, .lst ha e hd, h⟩
theorem all_nil {P : V → Prop} : ∀ v ∈ ([] : List V), P v := fun _ h => by cases h
theorem all_cons {P : V → Prop} {v : V} {vs : List V} (h : P v) (r : ∀ u ∈ vs, P u) : ∀ u ∈ v :: vs, P u := fun u hu => by
  rcases List.mem_cons.mp hu with rfl | hu
  · exact h
  · exact r u hu
theorem all_app {P : V → Prop} {us vs : List V} (h : ∀ u ∈ us, P u) (r : ∀ u ∈ vs, P u) : ∀ u ∈ us ++ vs, P u := fun u hu => by
  rcases List.mem_append.mp hu with hu | hu
  · exact h u hu
  · exact r u hu
/-- some + more * 2 -/
theorem twice_more {P : Hp → V → Prop} {R : V → Hp → Prop} {l m : Addr} {xs ys : List V} (hP : ∀ {v : V} {H H1 : Hp}, P H v → Keep NoS H H1 → P H1 v)
    (e1 : H l = some (.lst xs)) (e2 : H m = some (.lst ys)) (z1 : 1 ≤ xs.length) (z2 : xs.length ≤ 100) (z3 : ys.length ≤ 100) (h1 : ∀ v ∈ xs, P H v) (h2 : ∀ v ∈ ys, P H v)
    (r : ∀ q H9 zs, Keep NoS H H9 → H9 q = some (.lst zs) → H q = none → 1 ≤ zs.length → zs.length ≤ 300 → (∀ v ∈ zs, P H9 v) → R (.ref q) H9) :
    rMulA K (.ref m) (.int 2) H fun y H2 => rAddO K (.ref l) y H2 R := by
  refine o_rep2 e2 (Nat.le_trans (by omega : ys.length * 2 ≤ 1000) (by decide)) fun q H1 n1 => ?_
  refine oo_add (o_addL (n1.get e1) n1.at_ (Nat.le_trans (by rw [List.length_append]; omega : _ ≤ 1000) (by decide)) fun q2 H2 n2 => ?_)
  have k : Keep NoS H H2 := n1.keep.trans n2.keep
  refine r q2 H2 _ k n2.at_ ?_ (by rw [List.length_append]; omega) (by rw [List.length_append, List.length_append]; omega) (all_app (fun v hv => hP (h1 v hv) k) (all_app (fun v hv => hP (h2 v hv) k) fun v hv => hP (h2 v hv) k))
  cases e : H q2 with
  | none => rfl
  | some o => have := n1.get e; rw [n2.no] at this; cases this
theorem str_app_ascii {x y : Str} (hx : ∀ c ∈ x.cps.toList, c < 128) (hy : ∀ c ∈ y.cps.toList, c < 128) : ∀ c ∈ (x ++ y).cps.toList, c < 128 := fun c hc => by
  have e : (x ++ y).cps.toList = x.cps.toList ++ y.cps.toList := by
    show (x.cps ++ y.cps).toList = _
    exact Array.toList_append
  rw [e] at hc
  rcases List.mem_append.mp hc with hc | hc
  · exact hx c hc
  · exact hy c hc
theorem str_cut_ascii {x : Str} {lo hi : Option Int} (hx : ∀ c ∈ x.cps.toList, c < 128) : ∀ c ∈ (cutS x lo hi).cps.toList, c < 128 := fun c hc => by
  unfold cutS at hc
  exact hx c (List.mem_of_mem_drop (List.mem_of_mem_take hc))
theorem str_upper_ascii {x : Str} (hx : ∀ c ∈ x.cps.toList, c < 128) : (∀ c ∈ (Txt.upper x).cps.toList, c < 128) ∧ (Txt.upper x).length = x.length := by
  rw [upper_ascii hx]
  refine ⟨fun c hc => ?_, ?_⟩
  · rw [Array.toList_map] at hc
    obtain ⟨b, hb, rfl⟩ := List.mem_map.mp hc
    have := hx b hb
    unfold up1
    split <;> omega
  · show (x.cps.map up1).size = x.cps.size
    exact Array.size_map
theorem str_int_ascii (i : Int) : ∀ c ∈ (Str.ofString (toString i)).cps.toList, c < 128 := fun c hc => by
  rw [signs_ofString] at hc
  obtain ⟨b, hb, rfl⟩ := List.mem_map.mp hc
  exact int_ascii i b hb
end
theorem oo_addi {K : PySem.W.Frag} {H : Hp} {Q : VK} {i j : Int} (h : Q (.int (i + j)) H) : rAddO K (.int i) (.int j) H Q := .inl (o_add h)
/-! ### odd -/
def spOdd : Sp := fun vs H Q _ => ∃ (p : Addr) (x : V) (d : PyData) (S : Addr → Prop) (N n k w : Nat), vs = [.ref p, x] ∧ Pot H p N ∧ 1 ≤ N ∧ S p ∧ (∀ b, S b → H b ≠ none) ∧ DD S H x d ∧ Nice n k w d ∧ n ≤ 900 ∧ w ≤ 100000 ∧
  ∀ (H' : Hp) (v : V), Keep (At p) H H' → Pot H' p (N - 1) → Good S H' (n + 1) (k + 1) (2 * w + 130) v → Q v H'
theorem spOdd_arity {vs : List V} {H : Hp} {Q : VK} {E : XK} (h : spOdd vs H Q E) : vs.length = 2 := by obtain ⟨_, _, _, _, _, _, _, _, rfl, _⟩ := h; rfl
end LB

namespace LB
open PySem PySem.Spec PyProof.Rows L2
/-- .. any new object is written again -/
theorem Keep.putO {S : Addr → Prop} {H0 H : Hp} {p : Addr} {o u : HO} (k : Keep S H0 H) (h0 : H0 p = none) : Keep S H0 (upd H p u) :=
  ⟨fun b v n e => by rw [upd_ne (ne_of_none e h0)]; exact k.all b v n e, fun b v e => by rw [upd_ne (ne_of_none e h0)]; exact k.tup b v e⟩
/-! ### sorted({..}), sorted(set(xs)): the set itself not told -/
/-- a new list of the ints ms stands at p; else all is kept -/
structure NewInts (H H2 : Hp) (p : Addr) (ms : List Int) : Prop where
  keep : Keep NoS H H2
  no : H p = none
  at_ : H2 p = some (.lst (ms.map V.int))
def kSorted (Q : VK) (H : Hp) (mem : Int → Prop) : Prop := ∀ (ms : List Int) (p : Addr) (H2 : Hp), ms.Pairwise (· < ·) → (∀ k, k ∈ ms ↔ mem k) → NewInts H H2 p ms → Q (.ref p) H2
/-- a reading made monotone -/
def tMono (t : TE) : TE := fun σ H Q => ∃ Q0 : VK, t σ H Q0 ∧ ∀ v H', Q0 v H' → Q v H'
theorem pe_mono {X : Cx} {e : Expr} {t : TE} (h : PE X e t) : PE X e (tMono t) := by
  constructor
  rintro pins s σ H Q I ⟨Q0, h0, h1⟩
  refine thn (h.run pins s σ H Q0 I h0) ?_
  rintro v s1 ⟨x, H1, I1, r, q⟩
  exact ⟨x, H1, I1, r, h1 _ _ q⟩
/-- sorted({te for slot i in tl}), te an int told by ns -/
def tSortC (K : PySem.W.Frag) (tl : TE) (i : Nat) (te : TE) : TE := fun σ H Q => tl σ H fun x H1 => ∃ (a : Addr) (xs : List V) (ns : List Int), x = .ref a ∧ SqT K H1 a xs ∧ xs.length ≤ 4000 ∧ (∀ H2, Keep NoS H1 H2 → SqT K H2 a xs) ∧
  (∀ (j : Nat) (x : V), xs[j]? = some x → ∃ k, ns[j]? = some k ∧ ∀ (H2 : Hp) (Q2 : VK), Keep NoS H1 H2 → Q2 (.int k) H2 → te ((σ.set i none).set i (some x)) H2 Q2) ∧ ns.length = xs.length ∧ kSorted Q H1 (· ∈ ns)
section
variable {X : Cx} {elt l : Expr} {scope : Scope} {pos pos2 p : Pos} {tl te : TE} {i : Nat} {v : Str} {pv : Pos}
theorem pe_sortC (hc : X.calm = true) (hN : X.N.Nodup) (hg : Gl X "sorted") (hm : X.mg "sorted" = none) (hl : PE X l tl) (ok : BlkOk X.N X.env.scope scope [(v, i)])
    (ht : ∀ (s : Shared) (H : Hp) (C : Addr) (cl : List (Str × Addr)) (fp : List Addr), PG (X.blk s H scope (compEnvC scope cl C X.env) fp) (.Name v pv) (gName i))
    (he : ∀ (s : Shared) (H : Hp) (C : Addr) (cl : List (Str × Addr)) (fp : List Addr), PE (X.blk s H scope (compEnvC scope cl C X.env) fp) elt te)
    (st : starEach [.SetComp elt [⟨.Name v pv, l, [], 0⟩] scope pos2] X.env = (false, eval (.SetComp elt [⟨.Name v pv, l, [], 0⟩] scope pos2) X.env) :: starEach [] X.env := by rfl)
    (hs : ∀ x, foldedSetIterable l X.env x = pure x := by intro _; rfl) :
    PE X (.Call (.Name "sorted" p) [.SetComp elt [⟨.Name v pv, l, [], 0⟩] scope pos2] [] pos) (tSortC X.K tl i te) := by
  constructor
  intro pins s σ H Q I h
  have P1 := pe_si (pos := pos2) hc hN (pi_tup (tg := .Name v pv) (pe_mono hl)) ok ⟨ht, fun _ _ _ _ _ => pts_nil, he⟩ hs
  refine (pe_callB (pos := pos) (p := p) (cr_sortS hc) hg hm (by decide +kernel) (pa_cons P1 pa_nil) (he := st)).run pins s σ H Q I ?_
  refine ⟨_, h, ?_⟩
  rintro x H1 ⟨a, xs, ns, e, hq, few, hq2, hel, hlen, q⟩
  refine ⟨a, e, ⟨xs, hq⟩, fun D hD => ⟨fun j m H' => m = xs.length - j ∧ j ≤ xs.length ∧ Keep NoS H1 H' ∧ ∃ S n, H' D = some (SetO X.w D S n) ∧ (∀ k, S k = true ↔ k ∈ ns.take j) ∧ n ≤ j, ⟨xs.length, by simp, Nat.zero_le _, Keep.new hD, _, 0, upd_same, fun k => by simp, Nat.le_refl _⟩, ?_⟩⟩
  rintro j m H' ⟨rfl, hj, k1, S, n, hS, hm, hn⟩
  by_cases lt : j < xs.length
  · refine .inr ⟨⟨xs, xs[j], hq2 _ k1, by simp [lt]⟩, fun H2 => Keep NoS H1 H2 ∧ ∃ S n, H2 D = some (SetO X.w D S n) ∧ (∀ k, S k = true ↔ k ∈ ns.take (j + 1)) ∧ n ≤ j + 1, fun H2 hw => ⟨xs.length - (j + 1), by omega, rfl, lt, hw⟩, ?_⟩
    rintro x H2 ⟨rfl, hx⟩
    obtain ⟨k, hk, t⟩ := hel j x (hx xs (hq2 _ k1))
    refine ⟨by show ((σ.set i none).set i (some x)).set i none = σ.set i none; rw [List.set_set, List.set_set], ?_⟩
    simp only [tYes, if_true]
    have sc : scanBound = 4096 := rfl
    refine t H2 _ k1 ⟨k, S, n, rfl, hS, by omega, k1.putO (o := .lst []) hD, _, _, upd_same, fun z => ?_, ?_⟩
    · rw [List.take_add_one, hk]
      simp only [addS, Bool.or_eq_true, decide_eq_true_eq, Option.toList_some, List.mem_append, List.mem_singleton, hm]
    · unfold addN
      split <;> omega
  · have e2 : j = xs.length := by omega
    subst e2
    refine .inl ⟨⟨xs, hq2 _ k1, Nat.le_refl _⟩, ?_⟩
    refine ⟨D, S, n, rfl, hS, fun ms p' h1 h2 _ h3 => q ms p' _ h1 (fun k => ?_) ⟨k1.trans (Keep.new h3), ?_, upd_same⟩⟩
    · rw [h2, hm, ← hlen, List.take_length]
    · cases z : H1 p' with
      | none => rfl
      | some o => rw [k1.all _ _ id z] at h3; cases h3
/-- sorted(set(xs)) -/
def tSortL (K : PySem.W.Frag) (te : TE) : TE := fun σ H Q => te σ H fun x H1 => ∃ (a : Addr) (ns : List Int), x = .ref a ∧ SqL K H1 a (ns.map V.int) ∧ ns.length ≤ 4000 ∧ kSorted Q H1 (· ∈ ns)
theorem pe_sortL {e : Expr} {p2 : Pos} (hc : X.calm = true) (hg : Gl X "sorted") (hm : X.mg "sorted" = none) (hg2 : Gl X "set") (hm2 : X.mg "set" = none) (he : PE X e te)
    (st : starEach [.Call (.Name "set" p2) [e] [] pos2] X.env = (false, eval (.Call (.Name "set" p2) [e] [] pos2) X.env) :: starEach [] X.env := by rfl)
    (st2 : starEach [e] X.env = (false, eval e X.env) :: starEach [] X.env := by rfl) :
    PE X (.Call (.Name "sorted" p) [.Call (.Name "set" p2) [e] [] pos2] [] pos) (tSortL X.K te) := by
  constructor
  intro pins s σ H Q I h
  have P1 := pe_callTy (pos := pos2) (p := p2) (cr_setL hc) hg2 hm2 (by decide +kernel) (pa_cons (pe_mono he) pa_nil (hs := st2)) (he := st2)
  refine (pe_callB (pos := pos) (p := p) (cr_sortS hc) hg hm (by decide +kernel) (pa_cons P1 pa_nil) (he := st)).run pins s σ H Q I ?_
  refine ⟨_, h, ?_⟩
  rintro x H1 ⟨a, ns, rfl, hq, few, q⟩
  refine ⟨a, ns, rfl, hq, few, fun D c hD => ⟨D, _, c, rfl, upd_same, fun ms p' h1 h2 _ h3 => q ms p' _ h1 (fun k => by rw [h2]; exact decide_eq_true_iff) ⟨(Keep.new hD).trans (Keep.new h3), ?_, upd_same⟩⟩⟩
  cases z : H1 p' with
  | none => rfl
  | some o => rw [(Keep.new (S := NoS) hD).all _ _ id z] at h3; cases h3
end
/-! ### dicts with int keys -/
/-- the dict of the keys vs, at v the value f v -/
def mkD (vs : List Int) (f : Int → V) : List (Key × V) := vs.map fun v => (.inl v, f v)
theorem mkD_len {vs : List Int} {f : Int → V} : (mkD vs f).length = vs.length := List.length_map _
theorem mkD_val {f : Int → V} {v : Int} : ∀ {vs : List Int}, valV (mkD vs f) (.inl v) = if v ∈ vs then some (f v) else none
  | [] => rfl
  | u :: vs => by
    by_cases e : u = v
    · subst e
      rw [if_pos List.mem_cons_self]
      exact valV_pos (p := ((Sum.inl u : Key), f u)) rfl
    · have e2 : ¬ (Sum.inl u : Key) = Sum.inl v := fun z => e (Sum.inl.inj z)
      have := valV_neg (p := ((Sum.inl u : Key), f u)) (r := mkD vs f) e2
      rw [show mkD (u :: vs) f = ((Sum.inl u : Key), f u) :: mkD vs f from rfl, this, mkD_val]
      have e3 : ¬ v = u := fun z => e z.symm
      simp only [List.mem_cons, e3, false_or]
theorem mkD_congr {vs : List Int} {f g : Int → V} (h : ∀ v ∈ vs, f v = g v) : mkD vs f = mkD vs g := List.map_congr_left fun v hv => by rw [h v hv]
theorem mkD_put {vs : List Int} {f : Int → V} {v : Int} {x : V} : putK (mkD vs f) (.inl v) x = mkD (if v ∈ vs then vs else vs ++ [v]) (fun u => if u = v then x else f u) := by
  have h0 : ((mkD vs f).any fun kv => decide (kv.1 = .inl v)) = decide (v ∈ vs) := by
    rw [valV_any, mkD_val]
    by_cases h : v ∈ vs <;> simp [h]
  unfold putK
  rw [h0]
  by_cases h : v ∈ vs
  · simp only [h, decide_true, if_true]
    unfold mkD
    rw [List.map_map]
    refine List.map_congr_left fun u _ => ?_
    by_cases e : u = v
    · subst e; simp
    · have e2 : ¬ (Sum.inl u : Key) = Sum.inl v := fun z => e (Sum.inl.inj z)
      simp only [Function.comp, e, e2, if_false]
  · simp only [h, decide_false, Bool.false_eq_true, if_false]
    unfold mkD
    rw [List.map_append]
    simp only [List.map_cons, List.map_nil, if_true]
    congr 1
    refine List.map_congr_left fun u hu => ?_
    have e : ¬ u = v := fun z => h (z ▸ hu)
    simp only [e, if_false]
theorem mkD_get {H : Hp} {a : Addr} {vs : List Int} {f : Int → V} {v : Int} (e : H a = some (.dK (mkD vs f))) : DGet H a (.int v) (if v ∈ vs then some (f v) else none) := by
  have := DGet.k (k := .inl v) e
  rwa [mkD_val] at this
theorem mkD_getF {H : Hp} {a : Addr} {o : Obj} {vs : List Int} {f : Int → V} {v : Int} (e : H a = some (.frz o (.dK (mkD vs f)))) : DGet H a (.int v) (if v ∈ vs then some (f v) else none) :=
  .inl ⟨mkD vs f, .inl v, .inr ⟨o, e⟩, rfl, by rw [mkD_val]⟩
theorem mkD_at {vs : List Int} {f : Int → V} {i : Nat} {k : Key} {x : V} (h : (mkD vs f)[i]? = some (k, x)) : ∃ v, vs[i]? = some v ∧ k = .inl v ∧ x = f v := by
  unfold mkD at h
  rw [List.getElem?_map] at h
  cases e : vs[i]? with
  | none => rw [e] at h; cases h
  | some v =>
    rw [e] at h
    injection h with h
    injection h with h1 h2
    exact ⟨v, rfl, h1.symm, h2.symm⟩
/-- the comprehension of a dict: D the new one -/
theorem dc_it {J : It} {n : Nat} {G : Hp → Prop} {Y : Nat → Hp → V → Hp → Prop} (w : Walk J n G Y) {g : TG} {tt : TT} {tk tv : TE} {vs : List Nat} {σ : LB.St} {H1 : Hp} {D : Addr} {Qd : Hp → Prop} (Pv : Nat → Hp → Prop) (h0 : Pv 0 (upd H1 D (.dK [])))
    (hG : ∀ i H, i ≤ n → Pv i H → G H)
    (hs : ∀ i x H H', i < n → Pv i H → Y i H x H' → g x (wipe σ vs) H' fun σ2 H2 => wipe σ2 vs = wipe σ vs ∧ tt σ2 H2 fun b H3 =>
      if b = true then tk σ2 H3 fun y H4 => tv σ2 H4 fun z H5 => ∃ kvs k, y = kV k ∧ H5 D = some (.dK kvs) ∧ kvs.length < sizeLine ∧ Pv (i + 1) (upd H5 D (.dK (putK kvs k z))) else Pv (i + 1) H3)
    (hd : ∀ H, Pv n H → Qd H) :
    ∃ W : Nat → Nat → Hp → Prop, (∃ m, W 0 m (upd H1 D (.dK []))) ∧ ∀ i m H, W i m H → (J.stop i H ∧ Qd H) ∨ (J.go i H ∧ ∃ Nx : Hp → Prop, (∀ H', Nx H' → ∃ m', m' < m ∧ W (i + 1) m' H') ∧
      ∀ x H', J.yld i H x H' → g x (wipe σ vs) H' fun σ2 H2 => wipe σ2 vs = wipe σ vs ∧ tt σ2 H2 fun b H3 => if b = true then tk σ2 H3 fun y H4 => tv σ2 H4 fun z H5 => ∃ kvs k, y = kV k ∧ H5 D = some (.dK kvs) ∧ kvs.length < sizeLine ∧ Nx (upd H5 D (.dK (putK kvs k z))) else Nx H3) := by
  refine ⟨fun i m H => i ≤ n ∧ m + i = n ∧ Pv i H, ⟨n, Nat.zero_le _, rfl, h0⟩, ?_⟩
  rintro i m H ⟨hi, hm, p⟩
  have q := hG i H hi p
  by_cases lt : i < n
  · exact .inr ⟨w.goes i H lt q, Pv (i + 1), fun H' p' => ⟨m - 1, by omega, lt, by omega, p'⟩, fun x H' y => hs i x H H' lt p (w.yields i H x H' lt q y)⟩
  · obtain rfl : i = n := by omega
    exact .inl ⟨w.stops H q, hd H p⟩
theorem walk_enT {K : PySem.W.Frag} {a : Addr} {xs : List V} : Walk (IteT K a) xs.length (fun H => SqT K H a xs) (YPair (fun i => some (.int (i : Nat))) (fun i => xs[i]?)) := by
  refine ⟨fun i _ hi q => ⟨xs, xs[i], q, by simp [hi]⟩, fun _ q => ⟨xs, q, rfl⟩, ?_⟩
  rintro i H v H' _ q ⟨T, x, h1, h2, h3, h4⟩
  exact ⟨T, .int (i : Nat), x, h1, h2, h3, rfl, h4 xs q⟩
end LB

namespace LB
open PySem PySem.Spec PyProof.Rows L2
/-! ### the values of a log: plain mathematics -/
theorem asc_eq : ∀ {as bs : List Int}, as.Pairwise (· < ·) → bs.Pairwise (· < ·) → (∀ k, k ∈ as ↔ k ∈ bs) → as = bs
  | [], [], _, _, _ => rfl
  | [], b :: bs, _, _, h => absurd ((h b).mpr List.mem_cons_self) (by simp)
  | a :: as, [], _, _, h => absurd ((h a).mp List.mem_cons_self) (by simp)
  | a :: as, b :: bs, ha, hb, h => by
    obtain ⟨a1, a2⟩ := List.pairwise_cons.mp ha
    obtain ⟨b1, b2⟩ := List.pairwise_cons.mp hb
    have e : a = b := by
      rcases List.mem_cons.mp ((h a).mp List.mem_cons_self) with e | e
      · exact e
      rcases List.mem_cons.mp ((h b).mpr List.mem_cons_self) with e2 | e2
      · exact e2.symm
      have := b1 a e
      have := a1 b e2
      omega
    subst e
    rw [asc_eq a2 b2 fun k => ?_]
    have hk := h k
    simp only [List.mem_cons] at hk
    constructor
    · intro z
      rcases hk.mp (.inr z) with rfl | z2
      · exact absurd (a1 _ z) (by omega)
      · exact z2
    · intro z
      rcases hk.mpr (.inr z) with rfl | z2
      · exact absurd (b1 _ z) (by omega)
      · exact z2
def insV (v : Int) : List Int → List Int
  | [] => [v]
  | u :: us => if v < u then v :: u :: us else if v = u then u :: us else u :: insV v us
theorem insV_mem {v k : Int} : ∀ {us : List Int}, k ∈ insV v us ↔ k = v ∨ k ∈ us
  | [] => by simp [insV]
  | u :: us => by
    unfold insV
    split
    · simp
    · split
      · rename_i e; subst e; simp
      · simp only [List.mem_cons, insV_mem (us := us)]
        constructor <;> rintro (h | h | h) <;> simp [h]
theorem insV_asc {v : Int} : ∀ {us : List Int}, us.Pairwise (· < ·) → (insV v us).Pairwise (· < ·)
  | [], _ => by simp [insV]
  | u :: us, h => by
    obtain ⟨h1, h2⟩ := List.pairwise_cons.mp h
    unfold insV
    split
    · rename_i e
      refine List.pairwise_cons.mpr ⟨fun y hy => ?_, h⟩
      rcases List.mem_cons.mp hy with rfl | hy
      · exact e
      · exact Int.lt_trans e (h1 y hy)
    · split
      · exact h
      · refine List.pairwise_cons.mpr ⟨fun y hy => ?_, insV_asc h2⟩
        rcases insV_mem.mp hy with rfl | hy
        · omega
        · exact h1 y hy
/-- the values, ascending -/
def vals (ops : List Op) : List Int := (ops.map (·.v)).foldr insV []
theorem foldr_mem {k : Int} : ∀ {vs : List Int}, k ∈ vs.foldr insV [] ↔ k ∈ vs
  | [] => by simp
  | v :: vs => by rw [List.foldr_cons, insV_mem, foldr_mem, List.mem_cons]
theorem foldr_asc : ∀ {vs : List Int}, (vs.foldr insV []).Pairwise (· < ·)
  | [] => by simp
  | v :: vs => by rw [List.foldr_cons]; exact insV_asc foldr_asc
theorem vals_asc (ops : List Op) : (vals ops).Pairwise (· < ·) := foldr_asc
theorem vals_mem {ops : List Op} {k : Int} : k ∈ vals ops ↔ k ∈ ops.map (·.v) := foldr_mem
theorem vals_at {ops : List Op} {k : Int} : k ∈ vals ops ↔ ∃ (i : Nat) (o : Op), ops[i]? = some o ∧ o.v = k := by
  rw [vals_mem, List.mem_map]
  constructor
  · rintro ⟨o, ho, e⟩
    obtain ⟨i, hi, e2⟩ := List.mem_iff_getElem.mp ho
    exact ⟨i, o, by rw [List.getElem?_eq_getElem hi, e2], e⟩
  · rintro ⟨i, o, h, e⟩
    exact ⟨o, List.mem_of_getElem? h, e⟩
theorem insV_len {v : Int} : ∀ {us : List Int}, (insV v us).length ≤ us.length + 1
  | [] => by simp [insV]
  | u :: us => by
    unfold insV
    split
    · simp
    · split
      · simp
      · have := insV_len (v := v) (us := us)
        simp only [List.length_cons]
        omega
theorem vals_len (ops : List Op) : (vals ops).length ≤ ops.length := by
  unfold vals
  have : ∀ vs : List Int, (vs.foldr insV []).length ≤ vs.length := fun vs => by
    induction vs with
    | nil => simp
    | cons v vs ih =>
      rw [List.foldr_cons, List.length_cons]
      have := insV_len (v := v) (us := vs.foldr insV [])
      omega
  have := this (ops.map (·.v))
  rwa [List.length_map] at this
/-- .. in the order in which they are met -/
def keysN (ops : List Op) : List Int := ops.foldl (fun ks o => if o.v ∈ ks then ks else ks ++ [o.v]) []
theorem keysN_snoc {ops : List Op} {o : Op} : keysN (ops ++ [o]) = if o.v ∈ keysN ops then keysN ops else keysN ops ++ [o.v] := by
  unfold keysN
  rw [List.foldl_append]
  rfl
theorem keysN_facts (ops : List Op) : (∀ k, k ∈ keysN ops ↔ k ∈ ops.map (·.v)) ∧ (keysN ops).Nodup ∧ (keysN ops).length ≤ ops.length := by
  have h : ∀ n, n ≤ ops.length → (∀ k, k ∈ keysN (ops.take n) ↔ k ∈ (ops.take n).map (·.v)) ∧ (keysN (ops.take n)).Nodup ∧ (keysN (ops.take n)).length ≤ n := by
    intro n
    induction n with
    | zero => intro _; simp [keysN]
    | succ n ih =>
      intro hn
      obtain ⟨i1, i2, i3⟩ := ih (by omega)
      have hx : ops[n]? = some ops[n] := List.getElem?_eq_getElem (by omega)
      rw [List.take_add_one, hx]
      simp only [Option.toList_some]
      rw [keysN_snoc]
      by_cases e : ops[n].v ∈ keysN (ops.take n)
      · rw [if_pos e]
        refine ⟨fun k => ?_, i2, by omega⟩
        rw [i1, List.map_append, List.mem_append]
        constructor
        · exact .inl
        · rintro (z | z)
          · exact z
          · rw [← i1]
            simp only [List.map_cons, List.map_nil, List.mem_singleton] at z
            rw [z]
            exact e
      · rw [if_neg e]
        refine ⟨fun k => ?_, ?_, by rw [List.length_append]; simp; omega⟩
        · rw [List.mem_append, i1, List.map_append, List.mem_append]
          simp
        · rw [List.nodup_append]
          refine ⟨i2, by simp, ?_⟩
          rintro a ha b hb rfl
          rw [List.mem_singleton.mp hb] at ha
          exact e ha
  have := h ops.length (Nat.le_refl _)
  rwa [List.take_length] at this
theorem keysN_vals {ops : List Op} {k : Int} : k ∈ keysN ops ↔ k ∈ vals ops := by rw [(keysN_facts ops).1, vals_mem]
def keyAt (key : Op → Int) (ops : List Op) (j : Nat) : Int := match ops[j]? with | some q => key q | none => 0
/-- of the first n operations of the value v the first one whose key is least -/
def bst (key : Op → Int) (ops : List Op) (v : Int) : Nat → Option Nat
  | 0 => none
  | n + 1 => match ops[n]? with
    | none => bst key ops v n
    | some o => if o.v = v then (match bst key ops v n with
        | none => some n
        | some j => if key o < keyAt key ops j then some n else some j) else bst key ops v n
structure Best (key : Op → Int) (ops : List Op) (v : Int) (n j : Nat) (q : Op) : Prop where
  lt : j < n
  at_ : ops[j]? = some q
  val : q.v = v
  le : ∀ i o, i < n → ops[i]? = some o → o.v = v → key q ≤ key o
  first : ∀ i o, i < j → ops[i]? = some o → o.v = v → key q < key o
theorem bst_none {key : Op → Int} {ops : List Op} {v : Int} : ∀ {n : Nat}, bst key ops v n = none ↔ ∀ i o, i < n → ops[i]? = some o → o.v ≠ v
  | 0 => by simp [bst]
  | n + 1 => by
    unfold bst
    constructor
    · intro h i o hi ho e
      cases hx : ops[n]? with
      | none =>
        rw [hx] at h
        have := (bst_none (n := n)).mp h
        by_cases z : i = n
        · subst z; rw [hx] at ho; cases ho
        · exact this i o (by omega) ho e
      | some q =>
        rw [hx] at h
        by_cases c : q.v = v
        · simp only [c, if_true] at h
          cases hb : bst key ops v n with
          | none => rw [hb] at h; cases h
          | some k =>
            rw [hb] at h
            simp only at h
            by_cases d : key q < keyAt key ops k
            · rw [if_pos d] at h; cases h
            · rw [if_neg d] at h; cases h
        · simp only [c, if_false] at h
          have := (bst_none (n := n)).mp h
          by_cases z : i = n
          · subst z; rw [hx] at ho; cases ho; exact c e
          · exact this i o (by omega) ho e
    · intro h
      cases hx : ops[n]? with
      | none => exact (bst_none (n := n)).mpr fun i o hi => h i o (by omega)
      | some q =>
        have c := h n q (by omega) hx
        simp only [c, if_false]
        exact (bst_none (n := n)).mpr fun i o hi => h i o (by omega)
theorem bst_some {key : Op → Int} {ops : List Op} {v : Int} : ∀ {n j : Nat}, bst key ops v n = some j → ∃ q, Best key ops v n j q
  | 0, j, h => by simp [bst] at h
  | n + 1, j, h => by
    unfold bst at h
    cases hx : ops[n]? with
    | none =>
      rw [hx] at h
      obtain ⟨q, b⟩ := bst_some (n := n) h
      exact ⟨q, by have := b.lt; omega, b.at_, b.val, fun i o hi ho e => by
        by_cases z : i = n
        · subst z; rw [hx] at ho; cases ho
        · exact b.le i o (by omega) ho e, b.first⟩
    | some x =>
      rw [hx] at h
      by_cases c : x.v = v
      · simp only [c, if_true] at h
        cases hb : bst key ops v n with
        | none =>
          rw [hb] at h
          cases h
          have no := bst_none.mp hb
          exact ⟨x, by omega, hx, c, fun i o hi ho e => by
            by_cases z : i = n
            · subst z; rw [hx] at ho; cases ho; exact Int.le_refl _
            · exact absurd e (no i o (by omega) ho), fun i o hi ho e => absurd e (no i o hi ho)⟩
        | some k =>
          rw [hb] at h
          obtain ⟨q, b⟩ := bst_some (n := n) hb
          simp only at h
          have ek : keyAt key ops k = key q := by unfold keyAt; rw [b.at_]
          rw [ek] at h
          by_cases d : key x < key q
          · rw [if_pos d] at h
            cases h
            exact ⟨x, by omega, hx, c, fun i o hi ho e => by
              by_cases z : i = n
              · subst z; rw [hx] at ho; cases ho; exact Int.le_refl _
              · have := b.le i o (by omega) ho e; omega, fun i o hi ho e => by have := b.le i o hi ho e; omega⟩
          · rw [if_neg d] at h
            cases h
            exact ⟨q, by have := b.lt; omega, b.at_, b.val, fun i o hi ho e => by
              by_cases z : i = n
              · subst z; rw [hx] at ho; cases ho; omega
              · exact b.le i o (by omega) ho e, b.first⟩
      · simp only [c, if_false] at h
        obtain ⟨q, b⟩ := bst_some (n := n) h
        exact ⟨q, by have := b.lt; omega, b.at_, b.val, fun i o hi ho e => by
          by_cases z : i = n
          · subst z; rw [hx] at ho; cases ho; exact absurd e c
          · exact b.le i o (by omega) ho e, b.first⟩
theorem bst_keys {key : Op → Int} {ops : List Op} {v : Int} : (∃ q j, bst key ops v ops.length = some j ∧ Best key ops v ops.length j q) ↔ v ∈ vals ops := by
  constructor
  · rintro ⟨q, j, _, b⟩
    exact vals_at.mpr ⟨j, q, b.at_, b.val⟩
  · intro h
    obtain ⟨i, o, ho, e⟩ := vals_at.mp h
    cases hb : bst key ops v ops.length with
    | none =>
      have li : i < ops.length := by
        by_cases z : i < ops.length
        · exact z
        · rw [List.getElem?_eq_none (by omega)] at ho; cases ho
      exact absurd e (bst_none.mp hb i o li ho)
    | some j =>
      obtain ⟨q, b⟩ := bst_some hb
      exact ⟨q, j, rfl, b⟩
abbrev kE : Op → Int := fun o => o.e
abbrev kB : Op → Int := fun o => -o.b
def bE (ops : List Op) (v : Int) : Nat := (bst kE ops v ops.length).getD 0
def bB (ops : List Op) (v : Int) : Nat := (bst kB ops v ops.length).getD 0
theorem bE_best {ops : List Op} {v : Int} (h : v ∈ vals ops) : ∃ q, Best kE ops v ops.length (bE ops v) q := by
  obtain ⟨q, j, e, b⟩ := (bst_keys (key := kE)).mpr h
  exact ⟨q, by unfold bE; rw [e]; exact b⟩
theorem bB_best {ops : List Op} {v : Int} (h : v ∈ vals ops) : ∃ q, Best kB ops v ops.length (bB ops v) q := by
  obtain ⟨q, j, e, b⟩ := (bst_keys (key := kB)).mpr h
  exact ⟨q, by unfold bB; rw [e]; exact b⟩
/-- the first end of a value, its last begin -/
def firstE (ops : List Op) (v : Int) : Int := match ops[bE ops v]? with | some o => o.e | none => 0
def lastB (ops : List Op) (v : Int) : Int := match ops[bB ops v]? with | some o => o.b | none => 0
theorem firstE_is {ops : List Op} {v : Int} {q : Op} (b : Best kE ops v ops.length (bE ops v) q) : firstE ops v = q.e := by
  unfold firstE
  rw [b.at_]
theorem lastB_is {ops : List Op} {v : Int} {q : Op} (b : Best kB ops v ops.length (bB ops v) q) : lastB ops v = q.b := by
  unfold lastB
  rw [b.at_]
theorem firstE_le {ops : List Op} {v : Int} {i : Nat} {o : Op} (h : ops[i]? = some o) (e : o.v = v) : firstE ops v ≤ o.e := by
  obtain ⟨q, b⟩ := bE_best (vals_at.mpr ⟨i, o, h, e⟩)
  rw [firstE_is b]
  refine b.le i o ?_ h e
  by_cases z : i < ops.length
  · exact z
  · rw [List.getElem?_eq_none (by omega)] at h; cases h
theorem lastB_ge {ops : List Op} {v : Int} {i : Nat} {o : Op} (h : ops[i]? = some o) (e : o.v = v) : o.b ≤ lastB ops v := by
  obtain ⟨q, b⟩ := bB_best (vals_at.mpr ⟨i, o, h, e⟩)
  rw [lastB_is b]
  have := b.le i o (by
    by_cases z : i < ops.length
    · exact z
    · rw [List.getElem?_eq_none (by omega)] at h; cases h) h e
  simp only [kB] at this
  omega
/-- the places of the operations of a value -/
def idxN (ops : List Op) (v : Int) (n : Nat) : List Nat := (List.range n).filter fun i => match ops[i]? with | some o => decide (o.v = v) | none => false
def idxOf (ops : List Op) (v : Int) : List Nat := idxN ops v ops.length
theorem idxN_succ {ops : List Op} {v : Int} {n : Nat} {o : Op} (h : ops[n]? = some o) : idxN ops v (n + 1) = if o.v = v then idxN ops v n ++ [n] else idxN ops v n := by
  unfold idxN
  rw [List.range_succ, List.filter_append]
  by_cases e : o.v = v
  · simp [h, e]
  · simp [h, e]
theorem idx_mem {ops : List Op} {v : Int} {i : Nat} : i ∈ idxOf ops v ↔ ∃ o, ops[i]? = some o ∧ o.v = v := by
  unfold idxOf idxN
  rw [List.mem_filter, List.mem_range]
  constructor
  · rintro ⟨hi, h⟩
    rw [List.getElem?_eq_getElem hi] at h ⊢
    exact ⟨_, rfl, by simpa using h⟩
  · rintro ⟨o, h, e⟩
    refine ⟨?_, by rw [h]; simp [e]⟩
    by_cases z : i < ops.length
    · exact z
    · rw [List.getElem?_eq_none (by omega)] at h; cases h
theorem idxN_len {ops : List Op} {v : Int} {n : Nat} : (idxN ops v n).length ≤ n := by
  unfold idxN
  have := List.length_filter_le (fun i => match ops[i]? with | some o => decide (o.v = v) | none => false) (List.range n)
  rwa [List.length_range] at this
/-- the write of a value -/
def wrIx (ops : List Op) (v : Int) : Option Nat := (idxOf ops v).find? fun i => match ops[i]? with | some o => o.w | none => false
end LB

namespace LB
open PySem PySem.Spec PyProof.Rows L2 HT
/-! ### t[::-1], t a tuple -/
section
variable {prog : Program} {w : World} {A : Around} {E : Value → Shared → Prop} {s : Shared}
theorem adj_rev (n : Nat) : Builtin.Slice.sliceAdjust none none (-1) (n : Int) = ((n : Int) - 1, -1) := by
  unfold Builtin.Slice.sliceAdjust
  simp
theorem places_rev (n : Nat) : Builtin.Slice.slicePlaces ((n : Int) - 1) (-1) (-1) = n := by
  unfold Builtin.Slice.slicePlaces
  simp only [show ¬ ((-1 : Int) > 0) by decide, if_false]
  split
  · simp only [show (- -1 : Int) = 1 by decide, Int.ediv_one]
    omega
  · omega
theorem applied_rev {sl : Addr} {vs : Value} {n : Nat} {Q : Int × Int × Nat → Shared → Prop} (hs : s.heap.IsSliceOf sl .none .none vs) (pv : IsPart vs (some (-1)))
    (h : Q ((n : Int) - 1, -1, n) s) : wpAny (model prog w) A (Builtin.Slice.sliceApplied (.ref sl) (pure (n : Int))) Q E s := by
  obtain ⟨os, hos, hcs, hds⟩ := id hs
  unfold Builtin.Slice.sliceApplied Builtin.Slice.sliceFields
  refine wpAny_bind (wpAny_bind (wpAny_field hos hds (x := .none) rfl (wpAny_bind (wpAny_field hos hds (x := .none) rfl (wpAny_bind (wpAny_field hos hds (x := vs) rfl (wpAny_pure ?_)))))))
  refine wpAny_bind (slicePart_ pv ?_)
  show wpAny _ _ (if ((-1 : Int) == 0) = true then _ else _) _ _ s
  rw [if_neg (by decide)]
  refine wpAny_bind (slicePart_ .none (wpAny_bind (slicePart_ .none (wpAny_bind (wpAny_pure ?_)))))
  show wpAny _ _ (match Builtin.Slice.sliceAdjust none none (-1) (n : Int) with | (lo, hi) => pure (lo, (-1 : Int), Builtin.Slice.slicePlaces lo hi (-1))) _ _ s
  rw [adj_rev]
  show wpAny _ _ (pure ((n : Int) - 1, (-1 : Int), Builtin.Slice.slicePlaces ((n : Int) - 1) (-1) (-1))) _ _ s
  rw [places_rev]
  exact wpAny_pure h
theorem fm_congr {α β : Type} {f g : α → Option β} : ∀ {l : List α}, (∀ m ∈ l, f m = g m) → l.filterMap f = l.filterMap g
  | [], _ => rfl
  | a :: l, h => by rw [List.filterMap_cons, List.filterMap_cons, h a List.mem_cons_self, fm_congr fun m hm => h m (List.mem_cons_of_mem _ hm)]
theorem pick_rev (xs : Array Value) : ((List.range xs.size).filterMap fun (m : Nat) => xs[(((xs.size : Int) - 1) + (m : Int) * -1).toNat]?) = xs.toList.reverse := by
  have e : (List.range xs.size).filterMap (fun (m : Nat) => xs[(((xs.size : Int) - 1) + (m : Int) * -1).toNat]?) = ((List.range xs.size).map (fun k => xs.size - 1 - k)).filterMap (xs[·]?) := by
    rw [List.filterMap_map]
    refine fm_congr fun m hm => ?_
    have hm := List.mem_range.mp hm
    have : (((xs.size : Int) - 1) + (m : Int) * -1).toNat = xs.size - 1 - m := by omega
    show _ = xs[xs.size - 1 - m]?
    rw [this]
  rw [e, PySem.W.krv_range, List.filterMap_reverse, PySem.W.krv_all]
theorem item_rev {t sl : Addr} {items : Array Value} {vs : Value} {Q : Value → Shared → Prop} (ht : IsTup s.heap t items) (hs : s.heap.IsSliceOf sl .none .none vs) (pv : IsPart vs (some (-1)))
    (h : Q (.ref s.heap.objs.size) { s with heap := s.heap.push { cls := .type "tuple", data := .seq items.toList.reverse.toArray } }) (hsz : items.size ≤ sizeLine) :
    wpAny (model prog w) A (getItem (.ref t) (.ref sl)) Q E s := by
  have hok : sizeOk (.seq items.toList.reverse.toArray) := by
    show items.toList.reverse.toArray.size ≤ sizeLine
    rw [List.size_toArray, List.length_reverse, Array.length_toList]
    exact hsz
  obtain ⟨os, hos, hcs, hds⟩ := id hs
  have hT : s.TypeIs (.ref sl) "slice" := ⟨os, hos, hcs⟩
  unfold getItem
  try with_reducible refine wpAny_holding ?_
  first | refine wpAny_bind (wpAny_pure ?_) | skip
  refine wpAny_bind (wpAny_sequenceKey ht.typeIs (by decide) ?_)
  refine wpAny_bind (wpAny_callSpecial?_slot (name := Str.ofString "__getitem__") ht.typeIs PyProof.Rows.slot_tuple_getitem (wpAny_call_entry PyProof.Rows.slot_tuple_getitem ht.typeIs entry_tuple_getitem ?_ (args_tuple_getitem _ _)))
  show wpAny _ _ (Builtin.Tuple.tupleItemsOf (.ref t) >>= _) _ _ s
  refine wpAny_bind (tupleItemsOf_ ht ?_)
  refine wpAny_bind (wpAny_typeOf hT ?_)
  rw [if_pos (by decide)]
  refine wpAny_bind (applied_rev hs pv ?_)
  have no : ¬ ((((items.size : Int) - 1) == 0 && (-1 : Int) == 1 && items.size == items.size) = true) := by
    intro q
    rw [Bool.and_eq_true, Bool.and_eq_true] at q
    exact absurd (eq_of_beq q.1.2) (by decide)
  show wpAny _ _ (if (((items.size : Int) - 1) == 0 && (-1 : Int) == 1 && items.size == items.size) = true then _ else _) _ _ s
  rw [if_neg no, pick_rev]
  first
    | exact wpAny_bind (m := Builtin.Tuple.tupleExact _) (wpAny_newObj_type (wpAny_pure ⟨_, rfl, wpAny_pure h⟩) hok)
    | exact wpAny_bind (m := Builtin.Tuple.tupleExact _) (wpAny_newObj_type (wpAny_bind (wpAny_pure (wpAny_pure ⟨_, rfl, wpAny_pure h⟩))) hok)
    | exact wpAny_bind (wpAny_bind (m := Builtin.Tuple.tupleExact _) (wpAny_newObj_type (wpAny_pure (wpAny_pure ⟨_, rfl, wpAny_pure h⟩)) hok))
    | exact wpAny_bind (wpAny_bind (m := Builtin.Tuple.tupleExact _) (wpAny_newObj_type (wpAny_pure ⟨_, rfl, wpAny_pure h⟩) hok))
end
def tRevA (K : PySem.W.Frag) (te : TE) : TE := fun σ H Q => te σ H fun x H1 => ∃ a xs, x = .ref a ∧ H1 a = some (.tup xs) ∧ ∀ p, H1 p = none → Q (.ref p) (upd H1 p (.tup xs.reverse))
theorem pe_revA {X : Cx} {e : Expr} {te : TE} {k : Nat} {p1 p2 p3 pos : Pos} (he : PE X e te) : PE X (.Subscript e (.Slice none none (some (.UnaryOp .USub (.Constant (.int 1) k p1) p2)) p3) pos) (tRevA X.K te) := by
  constructor
  intro pins s σ H Q I h
  refine Subscript_ (thn (he.run pins s σ H _ I h) ?_)
  rintro v s1 ⟨x, H1, I1, r1, a, xs, rfl, hx, q⟩
  cases r1
  have part : PO X (some (.UnaryOp .USub (.Constant (.int 1) k p1) p2)) (tPart (tUn (rU fun i => .int (-i)) (tC (.int 1)))) := po_some (pe_un un_neg pe_int)
  refine wpAny_Slice (thn (po_none.run pins s1 σ H1 (fun o H2 => o = none ∧ H2 = H1) I1 ⟨rfl, rfl⟩) ?_)
  rintro vl s2 ⟨l, H2, I2, pl, rfl, rfl⟩
  refine thn (po_none.run pins s2 σ H2 (fun o H3 => o = none ∧ H3 = H2) I2 ⟨rfl, rfl⟩) ?_
  rintro vu s3 ⟨u, H3, I3, pu, rfl, rfl⟩
  refine thn (part.run pins s3 σ H3 (fun o H4 => o = some (-1) ∧ H4 = H3) I3 ⟨1, rfl, -1, rfl, rfl, rfl⟩) ?_
  rintro vs s4 ⟨o, H4, I4, ps, rfl, rfl⟩
  cases pl
  cases pu
  have I5 : L2.Inv X pins σ H4 { s4 with heap := s4.heap.push { cls := .type "slice", data := .fields #[.none, .none, vs] } } := I4.kept (t' := s4.toks) fun b ob q => Heap.get?_push_of_some _ q
  obtain ⟨its, r, ht, hz⟩ := I5.tuple (.inl (.inl hx))
  have hlen := r.length
  show wpAny (model X.prog X.w) X.A (subscriptTail e (.Slice none none (some (.UnaryOp .USub (.Constant (.int 1) k p1) p2)) p3) (.ref a) (.ref s4.heap.objs.size)) (EP X pins σ Q) X.xe
    { s4 with heap := s4.heap.push { cls := .type "slice", data := .fields #[.none, .none, vs] } }
  refine tail_any (ops := [.ref a, .ref s4.heap.objs.size]) ht.typeIs (PyProof.Rows.slot_tuple_getitem.lookup) ?_ (by with_unfolding_all rfl)
  refine item_rev ht (Heap.IsSliceOf.new _ .none .none vs) ps ?_ (by rw [List.size_toArray]; omega)
  refine ⟨.ref _, _, I5.laid (t' := s4.toks) (o := .tup xs.reverse) (fun b ob q => Heap.get?_push_of_some _ q) (Nat.le_refl _) ?_, rfl, q _ (I5.hok.fresh (Nat.le_refl _))⟩
  exact ⟨by rw [List.length_reverse]; exact hz, _, r.reverse, ⟨_, Heap.get?_push_size _ rfl, rfl, _, rfl⟩⟩
def kRev (Q : VK) : VK := fun x H1 => ∃ a xs, x = .ref a ∧ H1 a = some (.tup xs) ∧ ∀ p, H1 p = none → Q (.ref p) (upd H1 p (.tup xs.reverse))
theorem w_rev {K : PySem.W.Frag} {te : TE} {σ : LB.St} {H : Hp} {Q : VK} (h : te σ H (kRev Q)) : tRevA K te σ H Q := h
theorem k_rev {H : Hp} {Q : VK} {a : Addr} {xs : List V} (e : H a = some (.tup xs)) (h : ∀ p H1, New H H1 p (.tup xs.reverse) → Q (.ref p) H1) : kRev Q (.ref a) H := ⟨a, xs, rfl, e, fun p hp => h p _ (.mk' hp)⟩
end LB

open PySem PySem.Spec PyProof.Rows L2 LB
/-! the tactic: one step of a reading; many -/
local macro_rules | `(tactic| walk_at "w1_5") => `(tactic| first
  | with_reducible refine w_seq ?_ | with_reducible refine w_asg ?_ | with_reducible refine w_drop ?_ | with_reducible refine w_ret ?_ | with_reducible refine w_next ?_
  | with_reducible refine w_ifs ?_ | with_reducible refine w_forR1 ?_ | with_reducible refine w_forR2 ?_ | with_reducible refine w_forL ?_ | with_reducible refine w_forT ?_ | with_reducible refine w_name ?_ | with_reducible refine w_sub ?_ | with_reducible refine w_par ?_
  | with_reducible refine w_var (by with_unfolding_all rfl) ?_ | with_reducible refine w_c ?_ | with_reducible refine w_op ?_ | with_reducible refine w_un ?_
  | with_reducible refine w_test ?_ | with_reducible refine w_tb ?_ | with_reducible refine w_nil ?_ | with_reducible refine w_cons ?_ | with_reducible refine w_cb ?_ | with_reducible refine w_call ?_
  | with_reducible refine w_not ?_ | with_reducible refine w_and ?_ | with_reducible refine w_or ?_ | with_reducible refine w_andV ?_ | with_reducible refine w_orV ?_ | with_reducible refine w_notV ?_
  | with_reducible refine w_ife ?_ | with_reducible refine w_chain ?_ | with_reducible refine w_bm ?_ | with_reducible refine w_sl ?_ | with_reducible refine w_part ?_ | with_reducible refine w_nopart ?_
  | with_reducible refine w_exb ?_ | with_reducible refine w_exi ?_ | with_reducible refine w_ex2 ?_ | with_reducible refine w_ex3 ?_ | with_reducible refine w_lstrg ?_ | with_reducible refine w_rg2 ?_ | with_reducible refine w_rg1 ?_ | with_reducible refine w_exij ?_ | with_reducible refine w_tup ?_ | with_reducible refine w_lst ?_
  | with_reducible refine o_add ?_ | with_reducible refine o_sub ?_ | with_reducible refine o_neg ?_ | with_reducible refine o_lt ?_ | with_reducible refine o_le ?_ | with_reducible refine o_gt ?_ | with_reducible refine o_ge ?_
  | with_reducible refine o_ixL (by assumption) (by decide) (by with_unfolding_all rfl) ?_ | with_reducible refine o_ixT (by assumption) (by decide) (by with_unfolding_all rfl) ?_
  | with_reducible refine o_mod (by first | decide | omega) ?_ | with_reducible refine o_mul (by first | decide | omega) ?_ | with_reducible refine o_fdv (by first | decide | omega) (by first | decide | omega) ?_ | with_reducible refine o_setL (by assumption) (by decide) (by simp) ?_
  | with_reducible refine oo_addi ?_ | with_reducible refine oo_sub ?_ | with_reducible refine oo_neg ?_ | with_reducible refine w_rev ?_ | with_reducible refine w_m0 ?_
  | with_reducible refine w_par3 ?_ | with_reducible refine w_tyl (by assumption) ?_
  | with_reducible refine o_abs ?_ | with_reducible refine o_eqs (by with_unfolding_all rfl) ?_ | with_reducible refine o_nes (by with_unfolding_all rfl) ?_ | with_reducible refine o_max2 ?_ | with_reducible refine o_min2 ?_ | with_reducible refine o_isiX (by assumption) ?_ | with_reducible refine o_lenl (by assumption) ?_ | with_reducible refine o_lent (by assumption) ?_ | with_reducible refine o_int1b ?_)
local macro_rules | `(tactic| walk_at "ws_5") => `(tactic| repeat (first | walk_at "w1_5" | dsimp only [List.set_cons_zero, List.set_cons_succ]))
namespace LB

def t__law_odd (K : PySem.W.Frag) : TS :=
  (tSeq (tAsg (tLst (tCons (tC V.non) (tCons (tC (V.bl true)) (tCons (tC (V.bl false)) (tCons (tC (V.int 0)) (tCons (tC (V.int 1)) (tCons (tUn rNegO (tC (V.int 1))) (tCons (tC (V.int 7)) (tCons (tOp (rAddO K) (tOp rPowI (tC (V.int 10)) (tC (V.int 9))) (tC (V.int 1))) (tCons (tOp rPowI (tC (V.int 10)) (tC (V.int 30))) (tCons (tC (V.str "")) (tCons (tC (V.str "read")) (tCons (tC (V.str "write")) (tCons (tTup tNil) (tCons (tLst tNil) (tCons tDNewK (tCons (tTup (tCons (tC (V.int 0)) tNil)) (tCons (tTup (tCons (tC (V.str "a")) tNil)) (tCons (tLst (tCons (tC (V.int 0)) tNil)) tNil))))))))))))))))))) (gName 2))
    (tSeq (tIfS (tB (tCB (rIsi K) (tCons (tVar 1) (tCons (tC (V.ty "tuple")) tNil))))
    (tAsg (tOp (rAddO K) (tVar 2) (tOp (rMulA K) (tLst (tCons (tCB (rListOf K) (tCons (tVar 1) tNil)) (tCons (tSl (rSlAny K) (tVar 1) tNoPart (tPart (tUn rNegO (tC (V.int 1))))) (tCons (tOp (rAddO K) (tVar 1) (tSl (rSlAny K) (tVar 1) (tPart (tUn rNegO (tC (V.int 1)))) tNoPart)) (tCons (tRevA K (tVar 1)) (tCons (tTup (tCons (tVar 1) tNil)) (tCons (tSl (rSlAny K) (tVar 1) (tPart (tC (V.int 1))) tNoPart) tNil))))))) (tC (V.int 2)))) (gName 2)) (tIfS (tB (tCB (rIsi K) (tCons (tVar 1) (tCons (tC (V.ty "str")) tNil))))
    (tAsg (tOp (rAddO K) (tVar 2) (tOp (rMulA K) (tLst (tCons (tOp (rAddO K) (tVar 1) (tC (V.str "s"))) (tCons (tSl (rSlAny K) (tVar 1) tNoPart (tPart (tUn rNegO (tC (V.int 1))))) (tCons (tM0 rUpper (tVar 1)) (tCons (tTup (tCons (tVar 1) tNil)) (tCons (tLst (tCons (tVar 1) tNil)) tNil)))))) (tC (V.int 2)))) (gName 2)) (tIfS (tB (tCB (rIsi K) (tCons (tVar 1) (tCons (tC (V.ty "int")) tNil))))
    (tAsg (tOp (rAddO K) (tVar 2) (tOp (rMulA K) (tLst (tCons (tOp (rAddO K) (tVar 1) (tC (V.int 1))) (tCons (tOp rSubO (tVar 1) (tC (V.int 1))) (tCons (tCB rStrO (tCons (tVar 1) tNil)) (tCons (tOp (rEqO K) (tVar 1) (tC (V.int 1))) (tCons (tUn rNegO (tVar 1)) tNil)))))) (tC (V.int 2)))) (gName 2)) tNext)))
    (tRet (tCall (spAny K) [] E0 (tCons (tVar 0) (tCons (tVar 2) tNil))))))

theorem ascii_lit {x : Str} (h : x.cps.toList.all (fun c => decide (c < 128)) = true) : ∀ c ∈ x.cps.toList, c < 128 := fun c hc => by
  have := (List.all_eq_true.mp h) c hc
  simpa using this
theorem good_lit {S : Addr → Prop} {H : Hp} {n k w : Nat} {x : Str} (h : x.cps.toList.all (fun c => decide (c < 128)) = true) (h2 : x.length ≤ 30) (h3 : 30 ≤ w) : Good S H n k w (.str x) := good_str (ascii_lit h) (by omega)
theorem New.free {H H1 : Hp} {p q : Addr} {o : HO} (n : New H H1 p o) (e : H1 q = none) : H q = none := by
  cases h : H q with
  | none => rfl
  | some u => rw [n.get h] at e; cases e
theorem nos_free {H H1 : Hp} {q : Addr} (k : Keep NoS H H1) (e : H1 q = none) : H q = none := by
  cases h : H q with
  | none => rfl
  | some u => rw [k.all _ _ id h] at e; cases e
theorem not_S {S : Addr → Prop} {H : Hp} {q : Addr} (hS : ∀ b, S b → H b ≠ none) (e : H q = none) : ¬ S q := fun h => hS q h e
theorem pure__law_odd {K : PySem.W.Frag} {vs : List V} {H : Hp} {Q : VK} {E : XK} (h : spOdd vs H Q E) : t__law_odd K { nx := fun _ H' => Q .non H', rt := Q } (start ["pot", "thing", "some"] vs) H := by
  obtain ⟨p, x, d, S, N, n, k, w, rfl, pt, hN, hp, hS, hd, hn, n1k, hw, q⟩ := h
  show t__law_odd K _ [some (.ref p), some x, none] H
  unfold t__law_odd
  have big : n + 1 ≤ 10 ^ 30 := by
    have : (1000 : Nat) ≤ 10 ^ 30 := by decide +kernel
    omega
  walk_at "ws_5"
  refine o_pow ⟨by decide, by decide +kernel⟩ ?_
  walk_at "ws_5"
  rw [show (10 : Int) ^ (9 : Int).toNat = 1000000000 by decide +kernel]
  refine o_pow ⟨by decide, by decide +kernel⟩ ?_
  walk_at "ws_5"
  refine k_tup (by simp) fun t1 H1 n1 => ?_
  walk_at "ws_5"
  refine k_lst (by simp) fun t2 H2 n2 => ?_
  walk_at "ws_5"
  refine w_dnew fun t3 H3 n3 => ?_
  walk_at "ws_5"
  refine k_tup (by simp; decide) fun t4 H4 n4 => ?_
  walk_at "ws_5"
  refine k_tup (by simp; decide) fun t5 H5 n5 => ?_
  walk_at "ws_5"
  refine k_lst (by simp; decide) fun t6 H6 n6 => ?_
  walk_at "ws_5"
  refine k_lst (by simp; decide) fun l H7 n7 => ?_
  walk_at "ws_5"
  have k02 : Keep NoS H H2 := n1.keep.trans n2.keep
  have k05 : Keep NoS H H5 := ((k02.trans n3.keep).trans n4.keep).trans n5.keep
  have k07 : Keep NoS H H7 := (k05.trans n6.keep).trans n7.keep
  have f2 : ¬ S t2 := not_S hS (n1.free n2.no)
  have f3 : ¬ S t3 := not_S hS (nos_free k02 n3.no)
  have f6 : ¬ S t6 := not_S hS (nos_free k05 n6.no)
  have fl : H l = none := nos_free (k05.trans n6.keep) n7.no
  have lp : l ≠ p := fun e => pt.ne fl e.symm
  have z1 : ∀ v ∈ ([.int 0] : List V), True := fun _ _ => trivial
  have g0 : ∀ {S : Addr → Prop} {H : Hp}, DDs S H [V.int 0] [PyData.int 0] := .cons (.int 0) .nil
  have n0 : ∀ d ∈ [PyData.int 0], okD (n + 1) d ∧ d.depth ≤ k := fun d hd => by
    simp only [List.mem_cons, List.not_mem_nil, or_false] at hd
    subst hd
    simp only [okD, PyData.depth]
    omega
  have w0 : PyData.weightAll [PyData.int 0] ≤ 2 * w + 130 := by
    have : PyData.weightAll [PyData.int 0] = 1 := by decide
    omega
  have ga : Good S H7 (n + 1) (k + 1) (2 * w + 130) (.ref t5) := by
    refine good_tup (ds := [.str "a"]) (n7.get (n6.get n5.at_)) (.cons (.str _) .nil) (nice_tup (fun d hd => ?_) (fun d hd => ?_) ?_)
    · simp only [List.mem_cons, List.not_mem_nil, or_false] at hd
      subst hd
      simp only [okD]
      exact ascii_lit (by decide)
    · simp only [List.mem_cons, List.not_mem_nil, or_false] at hd
      subst hd
      simp only [PyData.depth]
      omega
    · have : PyData.weightAll [PyData.str "a"] = 2 := by decide
      omega
  have hx : ∀ v ∈ [V.non, V.bl true, V.bl false, V.int 0, V.int 1, V.int (-1), V.int 7, V.int (1000000000 + 1), V.int (10 ^ (30 : Int).toNat), V.str "", V.str "read", V.str "write", V.ref t1, V.ref t2, V.ref t3, V.ref t4, V.ref t5, V.ref t6], Good S H7 (n + 1) (k + 1) (2 * w + 130) v := by
    refine all_cons good_non (all_cons good_bl (all_cons good_bl (all_cons (good_int (by simp) big (by omega)) (all_cons (good_int (by simp; omega) big (by omega)) (all_cons (good_int (by simp; omega) big (by omega)) (all_cons (good_int ?_ big (by omega)) (all_cons (good_int ?_ big (by omega)) (all_cons (good_int ?_ big (by omega)) ?_))))))))
    · have : (7 : Int).natAbs ≤ 10 ^ 30 := by decide +kernel
      omega
    · have : (1000000000 + 1 : Int).natAbs ≤ 10 ^ 30 := by decide +kernel
      omega
    · have : (10 ^ (30 : Int).toNat : Int).natAbs ≤ 10 ^ 30 := by decide +kernel
      omega
    refine all_cons (good_lit (by decide) (by decide) (by omega)) (all_cons (good_lit (by decide) (by decide) (by omega)) (all_cons (good_lit (by decide) (by decide) (by omega)) ?_))
    refine all_cons (good_tup (n7.get (n6.get (n5.get (n4.get (n3.get (n2.get n1.at_)))))) .nil (nice_tup (fun _ h => by cases h) (fun _ h => by cases h) (by simp [PyData.weightAll]))) ?_
    refine all_cons (good_lst f2 (n7.get (n6.get (n5.get (n4.get (n3.get n2.at_))))) .nil (nice_list (fun _ h => by cases h) (fun _ h => by cases h) (by simp [PyData.weightAll]))) ?_
    refine all_cons ⟨_, .dct f3 (n7.get (n6.get (n5.get (n4.get n3.at_)))) .nil, nice_dict⟩ ?_
    refine all_cons (good_tup (n7.get (n6.get (n5.get n4.at_))) g0 (nice_tup (fun d hd => (n0 d hd).1) (fun d hd => (n0 d hd).2) w0)) (all_cons ga ?_)
    exact all_cons (good_lst f6 (n7.get n6.at_) g0 (nice_list (fun d hd => (n0 d hd).1) (fun d hd => (n0 d hd).2) w0)) all_nil
  have hd7 : DD S H7 x d := hd.keep k07.of0
  have pt7 : Pot H7 p N := pt.keep k07
  -- the end: one of them
  have fin : ∀ (D : Ends), D.rt = Q → ∀ (y : V) (l2 : Addr) (H8 : Hp) (ys : List V), Keep NoS H7 H8 → H8 l2 = some (.lst ys) → l2 ≠ p → 1 ≤ ys.length → ys.length ≤ 300 → (∀ v ∈ ys, Good S H8 (n + 1) (k + 1) (2 * w + 130) v) →
      (tRet (tCall (spAny K) [] E0 (tCons (tVar 0) (tCons (tVar 2) tNil)))) D [some (.ref p), some y, some (.ref l2)] H8 := by
    intro D hD y l2 H8 ys k78 e ne a1 a2 hy
    walk_at "ws_5"
    refine o_any (pt7.keep k78) hN ne (.inl e) a1 (by omega) fun H' i v ev kp pt' => ?_
    rw [hD]
    exact q H' v ((k07.trans k78).of0.trans kp) pt' ((hy v (List.mem_of_getElem? ev)).keep (kp.mono fun b hb => by rw [hb]; exact hp))
  have more : ∀ (D : Ends), D.rt = Q → ∀ (y : V) (H8 : Hp) (m : Addr) (ys : List V), Keep NoS H7 H8 → H8 m = some (.lst ys) → ys.length ≤ 100 → (∀ v ∈ ys, Good S H8 (n + 1) (k + 1) (2 * w + 130) v) →
      rMulA K (.ref m) (.int 2) H8 fun z H9 => rAddO K (.ref l) z H9 fun u H10 => (tRet (tCall (spAny K) [] E0 (tCons (tVar 0) (tCons (tVar 2) tNil)))) D [some (.ref p), some y, some u] H10 := by
    intro D hD y H8 m ys k78 e z3 hy
    refine twice_more (P := fun H v => Good S H (n + 1) (k + 1) (2 * w + 130) v) (fun h e => h.keep e.of0) (k78.all _ _ id n7.at_) e (by simp) (by simp) z3 (fun v hv => (hx v hv).keep k78.of0) hy fun q2 H9 zs k9 e9 f9 a1 a2 hz => ?_
    exact fin D hD y q2 H9 zs (k78.trans k9) e9 (fun e => (pt7.keep k78).ne f9 e.symm) a1 a2 hz
  walk_at "ws_5"
  rw [isT_tuple]
  cases d with
  | tuple ds =>
    refine w_iteT rfl ?_
    obtain ⟨a, xs, rfl, ha, hx0⟩ := hd7.tupX
    obtain ⟨i1, i2, i3⟩ := hn.items
    have hlen : xs.length ≤ w := by
      rw [hx0.length]
      have := wAll_len (xs := ds)
      omega
    walk_at "ws_5"
    refine o_listof (.inr (.inl (.inl ha))) fun l1 H8 m8 => ?_
    walk_at "ws_5"
    have ha8 := m8.get ha
    refine o_slt ha8 fun p1 H9 k9 e9 => ?_
    walk_at "ws_5"
    have ha9 := k9.tup _ _ ha8
    refine o_slt ha9 fun p2 H10 k10 e10 => ?_
    have ha10 := k10.tup _ _ ha9
    refine oo_add (o_catt ha10 e10 (Nat.le_trans (by have := cutV_length xs (some (-1)) none; omega : _ ≤ 300000) (by decide)) fun p3 H11 k11 e11 => ?_)
    walk_at "ws_5"
    have ha11 := k11.tup _ _ ha10
    refine k_rev ha11 fun p4 H12 m12 => ?_
    walk_at "ws_5"
    have ha12 := m12.get ha11
    refine k_tup (by simp; decide) fun p5 H13 m13 => ?_
    walk_at "ws_5"
    have ha13 := m13.get ha12
    refine o_slt ha13 fun p6 H14 k14 e14 => ?_
    walk_at "ws_5"
    refine k_lst (by simp; decide) fun m H15 m15 => ?_
    walk_at "ws_5"
    have k1315 : Keep NoS H13 H15 := k14.trans m15.keep
    have k1115 : Keep NoS H11 H15 := (m12.keep.trans m13.keep).trans k1315
    have k915 : Keep NoS H9 H15 := (k10.trans k11).trans k1115
    have k815 : Keep NoS H8 H15 := k9.trans k915
    have k715 : Keep NoS H7 H15 := m8.keep.trans k815
    have dd := hx0.keep (S := S) k715.of0
    have gt : ∀ (b : Addr) (zs : List V) (es : List PyData), H15 b = some (.tup zs) → DDs S H15 zs es → (∀ d ∈ es, d ∈ ds) → PyData.weightAll es ≤ 2 * w + 130 → Good S H15 (n + 1) (k + 1) (2 * w + 130) (.ref b) :=
      fun b zs es hb hz hm hw => good_tup hb hz (nice_tup (fun d hd => okD_mono (by omega) (i1 d (hm d hd))) (fun d hd => by have := i2 d (hm d hd); omega) hw)
    have wc : ∀ lo hi, PyData.weightAll (cutD ds lo hi) ≤ w := fun lo hi => Nat.le_trans wAll_cut i3
    refine more _ rfl _ H15 m _ k715 m15.at_ (by simp) (all_cons ?_ (all_cons ?_ (all_cons ?_ (all_cons ?_ (all_cons ?_ (all_cons ?_ all_nil))))))
    · exact good_lst (not_S hS (nos_free k07 m8.no)) (k815.all _ _ id m8.at_) dd (nice_list (fun d hd => okD_mono (by omega) (i1 d hd)) (fun d hd => by have := i2 d hd; omega) (by omega))
    · exact gt p1 _ _ (k915.tup _ _ e9) (dd.cut _ _) (fun d hd => cutD_mem hd) (by have := wc none (some (-1)); omega)
    · refine gt p3 _ _ (k1115.tup _ _ e11) (dd.append (dd.cut _ _)) (fun d hd => ?_) (by rw [wAll_append]; have := wc (some (-1)) none; omega)
      rcases List.mem_append.mp hd with hd | hd
      · exact hd
      · exact cutD_mem hd
    · exact gt p4 _ _ (k1315.tup _ _ (m13.get m12.at_)) dd.rev (fun d hd => List.mem_reverse.mp hd) (by rw [wAll_rev]; omega)
    · refine good_tup (k1315.tup _ _ m13.at_) (.cons (.tup (k715.tup _ _ ha) dd) .nil) (nice_tup (fun d hd => ?_) (fun d hd => ?_) ?_)
      · simp only [List.mem_cons, List.not_mem_nil, or_false] at hd
        subst hd
        exact okD_mono (by omega) hn.ok
      · simp only [List.mem_cons, List.not_mem_nil, or_false] at hd
        subst hd
        exact hn.dp
      · simp only [PyData.weightAll, PyData.weight]
        omega
    · exact gt p6 _ _ (m15.get e14) (dd.cut _ _) (fun d hd => cutD_mem hd) (by have := wc (some 1) none; omega)
  | str z =>
    refine w_iteF rfl ?_
    have := hd7.strX
    subst this
    have hz := hn.ok
    simp only [okD] at hz
    have hzl : z.length ≤ w := hn.wt
    walk_at "ws_5"
    rw [isT_str]
    refine w_iteT rfl ?_
    walk_at "ws_5"
    have s1 : ("s" : Str).length = 1 := by decide
    refine oo_add (o_adds (Nat.le_trans (by rw [s1]; omega : _ ≤ 300000) (by decide)) ?_)
    walk_at "ws_5"
    refine o_sls (Nat.le_trans (by omega : _ ≤ 300000) (by decide)) ?_
    walk_at "ws_5"
    refine ⟨⟨z, rfl⟩, z, rfl, rfl, by omega, ?_⟩
    walk_at "ws_5"
    refine k_tup (by simp; decide) fun p5 H8 m8 => ?_
    walk_at "ws_5"
    refine k_lst (by simp; decide) fun p6 H9 m9 => ?_
    walk_at "ws_5"
    refine k_lst (by simp; decide) fun m H10 m10 => ?_
    walk_at "ws_5"
    have d1 : ∀ {S : Addr → Prop} {H : Hp}, DDs S H [V.str z] [PyData.str z] := .cons (.str z) .nil
    have e1 : ∀ d ∈ [PyData.str z], okD (n + 1) d ∧ d.depth ≤ k := fun d hd => by
      simp only [List.mem_cons, List.not_mem_nil, or_false] at hd
      subst hd
      simp only [okD, PyData.depth]
      exact ⟨hz, by omega⟩
    have e2 : PyData.weightAll [PyData.str z] ≤ 2 * w + 130 := by
      have hzl : z.cps.size ≤ w := hzl
      simp only [PyData.weightAll, PyData.weight]
      omega
    refine more _ rfl _ H10 m _ ((m8.keep.trans m9.keep).trans m10.keep) m10.at_ (by simp) (all_cons ?_ (all_cons ?_ (all_cons ?_ (all_cons ?_ (all_cons ?_ all_nil)))))
    · exact good_str (str_app_ascii hz (ascii_lit (by decide))) (by rw [strLen_append, s1]; omega)
    · exact good_str (str_cut_ascii hz) (by have := cutS_length z none (some (-1)); omega)
    · exact good_str (str_upper_ascii hz).1 (by rw [(str_upper_ascii hz).2]; omega)
    · exact good_tup (m10.get (m9.get m8.at_)) d1 (nice_tup (fun d hd => (e1 d hd).1) (fun d hd => (e1 d hd).2) e2)
    · exact good_lst (not_S hS (nos_free k07 (m8.free m9.no))) (m10.get m9.at_) d1 (nice_list (fun d hd => (e1 d hd).1) (fun d hd => (e1 d hd).2) e2)
  | int i =>
    refine w_iteF rfl ?_
    have := hd7.intX
    subst this
    have hi := hn.ok
    simp only [okD] at hi
    walk_at "ws_5"
    rw [isT_str]
    refine w_iteF rfl ?_
    walk_at "ws_5"
    rw [isT_int]
    refine w_iteT rfl ?_
    walk_at "ws_5"
    refine oo_str (by have := log_ok hi (by omega); omega) ?_
    walk_at "ws_5"
    refine oo_eq ?_
    walk_at "ws_5"
    refine k_lst (by simp; decide) fun m H8 m8 => ?_
    walk_at "ws_5"
    have il : (Str.ofString (toString i)).length ≤ 33 := by
      rw [PySem.ofString_length]
      refine int_text_length_le10 (k := 32) (by decide) ?_
      have : (10 : Nat) ^ 30 + 10 ^ 30 < 10 ^ 32 := by decide +kernel
      omega
    refine more _ rfl _ H8 m _ m8.keep m8.at_ (by simp) (all_cons ?_ (all_cons ?_ (all_cons ?_ (all_cons ?_ (all_cons ?_ all_nil)))))
    · exact good_int (by omega) big (by omega)
    · exact good_int (by omega) big (by omega)
    · exact good_str (str_int_ascii i) (by omega)
    · exact good_bl
    · exact good_int (by omega) big (by omega)
  | bool b =>
    refine w_iteF rfl ?_
    have hb : bI b = 0 ∨ bI b = 1 := by cases b <;> simp [bI]
    have : x = .bl b := by cases hd7; rfl
    subst this
    walk_at "ws_5"
    rw [isT_str]
    refine w_iteF rfl ?_
    walk_at "ws_5"
    rw [isT_int]
    refine w_iteT rfl ?_
    walk_at "ws_5"
    refine oo_addb ?_
    walk_at "ws_5"
    refine oo_subb ?_
    walk_at "ws_5"
    refine oo_strb ?_
    walk_at "ws_5"
    refine oo_eqb ?_
    walk_at "ws_5"
    refine oo_negb ?_
    walk_at "ws_5"
    refine k_lst (by simp; decide) fun m H8 m8 => ?_
    walk_at "ws_5"
    refine more _ rfl _ H8 m _ m8.keep m8.at_ (by simp) (all_cons ?_ (all_cons ?_ (all_cons ?_ (all_cons ?_ (all_cons ?_ all_nil)))))
    · exact good_int (by rcases hb with hb | hb <;> rw [hb] <;> omega) big (by omega)
    · exact good_int (by rcases hb with hb | hb <;> rw [hb] <;> omega) big (by omega)
    · cases b
      · exact good_lit (by decide) (by decide) (by omega)
      · exact good_lit (by decide) (by decide) (by omega)
    · exact good_bl
    · exact good_int (by rcases hb with hb | hb <;> rw [hb] <;> omega) big (by omega)
  | none =>
    refine w_iteF rfl ?_
    walk_at "ws_5"
    rw [isT_str]
    refine w_iteF rfl ?_
    walk_at "ws_5"
    rw [isT_int]
    refine w_iteF rfl ?_
    walk_at "ws_5"
    exact o_any pt7 hN lp (.inl n7.at_) (by simp) (by simp) fun H' i v ev kp pt' => q H' v (k07.of0.trans kp) pt' ((hx v (List.mem_of_getElem? ev)).keep (kp.mono fun b hb => by rw [hb]; exact hp))
  | list ds =>
    refine w_iteF rfl ?_
    walk_at "ws_5"
    rw [isT_str]
    refine w_iteF rfl ?_
    walk_at "ws_5"
    rw [isT_int]
    refine w_iteF rfl ?_
    walk_at "ws_5"
    exact o_any pt7 hN lp (.inl n7.at_) (by simp) (by simp) fun H' i v ev kp pt' => q H' v (k07.of0.trans kp) pt' ((hx v (List.mem_of_getElem? ev)).keep (kp.mono fun b hb => by rw [hb]; exact hp))
  | dict kvs =>
    refine w_iteF rfl ?_
    walk_at "ws_5"
    rw [isT_str]
    refine w_iteF rfl ?_
    walk_at "ws_5"
    rw [isT_int]
    refine w_iteF rfl ?_
    walk_at "ws_5"
    exact o_any pt7 hN lp (.inl n7.at_) (by simp) (by simp) fun H' i v ev kp pt' => q H' v (k07.of0.trans kp) pt' ((hx v (List.mem_of_getElem? ev)).keep (kp.mono fun b hb => by rw [hb]; exact hp))
end LB

open PySem PySem.Spec PyProof.Rows L2 LB
/-! the tactic: one step of a reading; many -/
local macro_rules | `(tactic| walk_at "w1_6") => `(tactic| first
  | with_reducible refine w_seq ?_ | with_reducible refine w_asg ?_ | with_reducible refine w_drop ?_ | with_reducible refine w_ret ?_ | with_reducible refine w_next ?_
  | with_reducible refine w_ifs ?_ | with_reducible refine w_forR1 ?_ | with_reducible refine w_forR2 ?_ | with_reducible refine w_forL ?_ | with_reducible refine w_forT ?_ | with_reducible refine w_name ?_ | with_reducible refine w_sub ?_ | with_reducible refine w_par ?_
  | with_reducible refine w_var (by with_unfolding_all rfl) ?_ | with_reducible refine w_c ?_ | with_reducible refine w_op ?_ | with_reducible refine w_un ?_
  | with_reducible refine w_test ?_ | with_reducible refine w_tb ?_ | with_reducible refine w_nil ?_ | with_reducible refine w_cons ?_ | with_reducible refine w_cb ?_ | with_reducible refine w_call ?_
  | with_reducible refine w_not ?_ | with_reducible refine w_and ?_ | with_reducible refine w_or ?_ | with_reducible refine w_andV ?_ | with_reducible refine w_orV ?_ | with_reducible refine w_notV ?_
  | with_reducible refine w_ife ?_ | with_reducible refine w_chain ?_ | with_reducible refine w_bm ?_ | with_reducible refine w_sl ?_ | with_reducible refine w_part ?_ | with_reducible refine w_nopart ?_
  | with_reducible refine w_exb ?_ | with_reducible refine w_exi ?_ | with_reducible refine w_ex2 ?_ | with_reducible refine w_ex3 ?_ | with_reducible refine w_lstrg ?_ | with_reducible refine w_rg2 ?_ | with_reducible refine w_rg1 ?_ | with_reducible refine w_exij ?_ | with_reducible refine w_tup ?_ | with_reducible refine w_lst ?_
  | with_reducible refine o_add ?_ | with_reducible refine o_sub ?_ | with_reducible refine o_neg ?_ | with_reducible refine o_lt ?_ | with_reducible refine o_le ?_ | with_reducible refine o_gt ?_ | with_reducible refine o_ge ?_
  | with_reducible refine o_ixL (by assumption) (by decide) (by with_unfolding_all rfl) ?_ | with_reducible refine o_ixT (by assumption) (by decide) (by with_unfolding_all rfl) ?_
  | with_reducible refine o_mod (by first | decide | omega) ?_ | with_reducible refine o_mul (by first | decide | omega) ?_ | with_reducible refine o_fdv (by first | decide | omega) (by first | decide | omega) ?_ | with_reducible refine o_setL (by assumption) (by decide) (by simp) ?_
  | with_reducible refine oo_addi ?_ | with_reducible refine oo_sub ?_ | with_reducible refine oo_neg ?_ | with_reducible refine w_rev ?_ | with_reducible refine w_m0 ?_
  | with_reducible refine w_par3 ?_ | with_reducible refine w_tyl (by assumption) ?_
  | with_reducible refine o_abs ?_ | with_reducible refine o_eqs (by with_unfolding_all rfl) ?_ | with_reducible refine o_nes (by with_unfolding_all rfl) ?_ | with_reducible refine o_max2 ?_ | with_reducible refine o_min2 ?_ | with_reducible refine o_isiX (by assumption) ?_ | with_reducible refine o_lenl (by assumption) ?_ | with_reducible refine o_lent (by assumption) ?_ | with_reducible refine o_int1b ?_)
local macro_rules | `(tactic| walk_at "ws_6") => `(tactic| repeat (first | walk_at "w1_6" | dsimp only [List.set_cons_zero, List.set_cons_succ]))
namespace LB
/-- bent(pot, thing, j): one part otherwise -/
def spBentN (j : Nat) : Sp := fun vs H Q _ => ∃ (p : Addr) (x : V) (d : PyData) (S : Addr → Prop) (N n k w : Nat), vs = [.ref p, x, .int j] ∧ Pot H p N ∧ 3 * (j + 1) ≤ N ∧ S p ∧ (∀ b, S b → H b ≠ none) ∧ DD S H x d ∧ Nice n k w d ∧ n ≤ 900 ∧ w ≤ 100000 ∧
  ∀ (H' : Hp) (v : V), Keep (At p) H H' → Pot H' p (N - 3 * (j + 1)) → Good S H' (n + 1) (k + 1) ((j + 2) * w + 130) v → Q v H'
theorem spBentN_arity {j : Nat} {vs : List V} {H : Hp} {Q : VK} {E : XK} (h : spBentN j vs H Q E) : vs.length = 3 := by obtain ⟨_, _, _, _, _, _, _, _, rfl, _⟩ := h; rfl
def spBentR : Nat → Sp
  | 0 => fun _ _ _ _ => False
  | j + 1 => spBentN j

def t__law_bent (j : Nat) (K : PySem.W.Frag) : TS :=
  (tSeq (tIfS (tOr (tTest (tOp (rEqA K) (tVar 2) (tC (V.int 0)))) (tOr (tNot (tB (tCB (rIsi K) (tCons (tVar 1) (tCons (tC (V.ty "tuple")) tNil))))) (tOr (tTest (tOp (rEqA K) (tVar 1) (tTup tNil))) (tTest (tOp (rEqA K) (tCall spDraw [] E0 (tCons (tVar 0) (tCons (tC (V.int 5)) tNil))) (tC (V.int 0)))))))
    (tRet (tCall spOdd [] E0 (tCons (tVar 0) (tCons (tVar 1) tNil)))) tNext)
    (tSeq (tAsg (tCall spDraw [] E0 (tCons (tVar 0) (tCons (tCB (rLen K) (tCons (tVar 1) tNil)) tNil))) (gName 3))
    (tRet (tOp (rAddA K) (tOp (rAddA K) (tSl (rSlAny K) (tVar 1) tNoPart (tPart (tVar 3))) (tTup (tCons (tCall (spBentR j) [] E0 (tCons (tVar 0) (tCons (tOp (rIx K) (tVar 1) (tVar 3)) (tCons (tOp rSubI (tVar 2) (tC (V.int 1))) tNil)))) tNil))) (tSl (rSlAny K) (tVar 1) (tPart (tOp (rAddA K) (tVar 3) (tC (V.int 1)))) tNoPart)))))

theorem kept_S {S : Addr → Prop} {H H8 : Hp} {p : Addr} {n : Nat} (hS : ∀ b, S b → H b ≠ none) (k : Keep (At p) H H8) (pt : Pot H8 p n) : ∀ b, S b → H8 b ≠ none := fun b hb e => by
  by_cases h : b = p
  · subst h
    obtain ⟨xs, hx⟩ := pt.some
    rw [hx] at e
    cases e
  · cases q : H b with
    | none => exact hS b hb q
    | some o => rw [k.all b o h q] at e; cases e
theorem cutD_take {ds : List PyData} {i : Nat} (h : i ≤ ds.length) : cutD ds none (some (i : Int)) = ds.take i := by
  unfold cutD
  rw [HT.sIx_none, HT.sIx_nat, List.drop_zero, Nat.sub_zero, Nat.min_eq_left h]
theorem cutD_drop {ds : List PyData} {i : Nat} (h : i + 1 ≤ ds.length) : cutD ds (some ((i : Int) + 1)) none = ds.drop (i + 1) := by
  unfold cutD
  have e : ((i : Int) + 1) = ((i + 1 : Nat) : Int) := by omega
  rw [e, HT.sIx_none, HT.sIx_nat, Nat.min_eq_left h]
  rw [List.take_of_length_le]
  rw [List.length_drop]
  omega
theorem pure__law_bent {j : Nat} {K : PySem.W.Frag} {vs : List V} {H : Hp} {Q : VK} {E : XK} (h : spBentN j vs H Q E) : t__law_bent j K { nx := fun _ H' => Q .non H', rt := Q } (start ["pot", "thing", "deep", "at"] vs) H := by
  obtain ⟨p, x, d, S, N, n, k, w, rfl, pt, hN, hp, hS, hd, hn, n1k, hw, q⟩ := h
  show t__law_bent j K _ [some (.ref p), some x, some (.int j), none] H
  unfold t__law_bent
  have jw : 2 * w ≤ (j + 2) * w := Nat.mul_le_mul_right _ (by omega)
  -- another value for it
  have odd : ∀ (H8 : Hp) (M : Nat), Keep (At p) H H8 → Pot H8 p M → N - 3 * (j + 1) + 1 ≤ M → spOdd [.ref p, x] H8 Q E0 := by
    intro H8 M k8 pt8 hM
    refine ⟨p, x, d, S, M, n, k, w, rfl, pt8, by omega, hp, kept_S hS k8 pt8, hd.keep (k8.mono fun b hb => by rw [hb]; exact hp), hn, n1k, by omega, fun H' v kp pt' g => ?_⟩
    exact q H' v (k8.trans kp) (pt'.le (by omega)) (g.mono (by omega) (by omega) (by omega))
  walk_at "ws_6"
  cases j with
  | zero =>
    refine w_iteT rfl ?_
    refine w_iteT rfl ?_
    walk_at "ws_6"
    exact odd H N (Keep.refl _ _) pt (by omega)
  | succ j =>
    refine w_iteF (by simp; omega) ?_
    walk_at "ws_6"
    rw [isT_tuple]
    cases d with
    | tuple ds =>
      refine w_iteF rfl ?_
      obtain ⟨a, xs, rfl, ha, hx⟩ := hd.tupX
      obtain ⟨i1, i2, i3⟩ := hn.items
      have hl := hx.length
      have hlen : xs.length ≤ w := by
        have := wAll_len (xs := ds)
        omega
      walk_at "ws_6"
      refine k_tup (by simp) fun t H1 n1 => ?_
      have ha1 := n1.get ha
      have pt1 := pt.new n1
      refine .inr (.inr (.inl ⟨a, t, xs, rfl, rfl, ha1, n1.at_, ?_⟩))
      walk_at "ws_6"
      refine w_iteb (fun c1 => ?_) (fun c1 => ?_)
      · refine w_iteT rfl ?_
        walk_at "ws_6"
        exact odd H1 N n1.keep pt1 (by omega)
      · walk_at "ws_6"
        refine o_draw pt1 (by omega) (by omega) (by omega) fun H2 z kp2 pt2 z0 z1 => ?_
        have k02 : Keep (At p) H H2 := n1.keep.trans kp2
        have ha2 := kp2.tup _ _ ha1
        walk_at "ws_6"
        refine w_iteb (fun c2 => ?_) (fun c2 => ?_)
        · walk_at "ws_6"
          exact odd H2 _ k02 pt2 (by omega)
        · walk_at "ws_6"
          have hpos : 1 ≤ xs.length := by
            cases xs with
            | nil => cases c1
            | cons _ _ => simp
          refine o_draw pt2 (by omega) (by omega) (by omega) fun H3 y kp3 pt3 y0 y1 => ?_
          obtain ⟨i, rfl⟩ := Int.eq_ofNat_of_zero_le y0
          have hi : i < xs.length := by omega
          have k03 := k02.trans kp3
          have ha3 := kp3.tup _ _ ha2
          walk_at "ws_6"
          refine o_slt ha3 fun p1 H4 k4 e4 => ?_
          walk_at "ws_6"
          have ha4 := k4.tup _ _ ha3
          have ev : xs[i]? = some xs[i] := List.getElem?_eq_getElem hi
          refine o_ixT (v := xs[i]) ha4 (by omega) ev ?_
          walk_at "ws_6"
          obtain ⟨di, edi, hdi⟩ := hx.get ev
          have hdm : di ∈ ds := List.mem_of_getElem? edi
          have k04 : Keep (At p) H H4 := k03.trans k4.of0
          have pt4 := pt3.keep k4
          have kS : ∀ {A B : Hp}, Keep (At p) A B → Keep S A B := fun k => k.mono fun b hb => by rw [hb]; exact hp
          have kk : k - 1 + 1 = k := by have := i2 di hdm; omega
          have hwi : di.weight ≤ w := by have := wAll_mem hdm; omega
          refine ⟨p, xs[i], di, S, N - 1 - 1, n, k - 1, di.weight, by rw [show (((j + 1 : Nat) : Int) - 1) = (j : Int) by omega], pt4, by omega, hp, kept_S hS k04 pt4, hdi.keep (kS k04), ⟨i1 di hdm, by have := i2 di hdm; omega, Nat.le_refl _⟩, n1k, by omega, fun H5 v kp5 pt5 gv => ?_⟩
          rw [kk] at gv
          walk_at "ws_6"
          refine k_tup (by simp; decide) fun u H6 n6 => ?_
          have e6 := n6.get (kp5.tup _ _ e4)
          refine o_catt e6 n6.at_ (Nat.le_trans (by have := cutV_length xs none (some (i : Int)); simp; omega : _ ≤ 300000) (by decide)) fun p2 H7 k7 e7 => ?_
          walk_at "ws_6"
          have ha7 := k7.tup _ _ (n6.get (kp5.tup _ _ ha4))
          refine o_slt ha7 fun p3 H8 k8 e8 => ?_
          have e78 := k8.tup _ _ e7
          have l1 := cutV_length xs none (some (i : Int))
          have l2 := cutV_length xs (some ((i : Int) + 1)) none
          refine o_catt e78 e8 (Nat.le_trans (by simp; omega : _ ≤ 300000) (by decide)) fun p4 H9 k9 e9 => ?_
          walk_at "ws_6"
          have k59 : Keep NoS H5 H9 := ((n6.keep.trans k7).trans k8).trans k9
          have k09 : Keep (At p) H H9 := (k04.trans kp5).trans k59.of0
          obtain ⟨dv, hdv, nv⟩ := gv
          have hx9 := hx.keep (kS k09)
          refine q H9 (.ref p4) k09 ((pt5.keep k59).le (by omega)) ?_
          have hil : i + 1 ≤ ds.length := by omega
          have c1 := hx9.cut none (some (i : Int))
          have c2 := hx9.cut (some ((i : Int) + 1)) none
          rw [cutD_take (by omega)] at c1
          rw [cutD_drop hil] at c2
          refine good_tup e9 ((c1.append (.cons (hdv.keep k59.of0) .nil)).append c2) (nice_tup (fun e he => ?_) (fun e he => ?_) ?_)
          · rcases List.mem_append.mp he with he | he
            · rcases List.mem_append.mp he with he | he
              · exact okD_mono (by omega) (i1 e (List.mem_of_mem_take he))
              · simp only [List.mem_cons, List.not_mem_nil, or_false] at he
                subst he
                exact nv.ok
            · exact okD_mono (by omega) (i1 e (List.mem_of_mem_drop he))
          · rcases List.mem_append.mp he with he | he
            · rcases List.mem_append.mp he with he | he
              · have := i2 e (List.mem_of_mem_take he); omega
              · simp only [List.mem_cons, List.not_mem_nil, or_false] at he
                subst he
                exact nv.dp
            · have := i2 e (List.mem_of_mem_drop he); omega
          · have w1 := wAll_take (xs := ds) (k := i)
            have edi' : ds[i] = di := by
              have := List.getElem?_eq_getElem (l := ds) (i := i) (by omega)
              rw [this] at edi
              exact Option.some.inj edi
            rw [List.drop_eq_getElem_cons (by omega), edi'] at w1
            simp only [PyData.weightAll] at w1
            rw [wAll_append, wAll_append]
            simp only [PyData.weightAll]
            have w2 := nv.wt
            have w3 : (j + 1 + 2) * w = (j + 2) * w + w := by rw [Nat.add_right_comm j 1 2, Nat.add_mul (j + 2) 1 w, Nat.one_mul]
            have w4 : (j + 2) * di.weight ≤ (j + 2) * w := Nat.mul_le_mul_left _ hwi
            omega
    | _ =>
      refine w_iteT rfl ?_
      refine w_iteT rfl ?_
      walk_at "ws_6"
      exact odd H N (Keep.refl _ _) pt (by omega)
end LB

open PySem PySem.Spec PyProof.Rows L2 LB
/-! the tactic: one step of a reading; many -/
local macro_rules | `(tactic| walk_at "w1_7") => `(tactic| first
  | with_reducible refine w_seq ?_ | with_reducible refine w_asg ?_ | with_reducible refine w_drop ?_ | with_reducible refine w_ret ?_ | with_reducible refine w_next ?_
  | with_reducible refine w_ifs ?_ | with_reducible refine w_forR1 ?_ | with_reducible refine w_forR2 ?_ | with_reducible refine w_forL ?_ | with_reducible refine w_forT ?_ | with_reducible refine w_name ?_ | with_reducible refine w_sub ?_ | with_reducible refine w_par ?_
  | with_reducible refine w_var (by with_unfolding_all rfl) ?_ | with_reducible refine w_c ?_ | with_reducible refine w_op ?_ | with_reducible refine w_un ?_
  | with_reducible refine w_test ?_ | with_reducible refine w_tb ?_ | with_reducible refine w_nil ?_ | with_reducible refine w_cons ?_ | with_reducible refine w_cb ?_ | with_reducible refine w_call ?_
  | with_reducible refine w_not ?_ | with_reducible refine w_and ?_ | with_reducible refine w_or ?_ | with_reducible refine w_andV ?_ | with_reducible refine w_orV ?_ | with_reducible refine w_notV ?_
  | with_reducible refine w_ife ?_ | with_reducible refine w_chain ?_ | with_reducible refine w_bm ?_ | with_reducible refine w_sl ?_ | with_reducible refine w_part ?_ | with_reducible refine w_nopart ?_
  | with_reducible refine w_exb ?_ | with_reducible refine w_exi ?_ | with_reducible refine w_ex2 ?_ | with_reducible refine w_ex3 ?_ | with_reducible refine w_lstrg ?_ | with_reducible refine w_rg2 ?_ | with_reducible refine w_rg1 ?_ | with_reducible refine w_exij ?_ | with_reducible refine w_tup ?_ | with_reducible refine w_lst ?_
  | with_reducible refine o_add ?_ | with_reducible refine o_sub ?_ | with_reducible refine o_neg ?_ | with_reducible refine o_lt ?_ | with_reducible refine o_le ?_ | with_reducible refine o_gt ?_ | with_reducible refine o_ge ?_
  | with_reducible refine o_ixL (by assumption) (by decide) (by with_unfolding_all rfl) ?_ | with_reducible refine o_ixT (by assumption) (by decide) (by with_unfolding_all rfl) ?_
  | with_reducible refine o_mod (by first | decide | omega) ?_ | with_reducible refine o_mul (by first | decide | omega) ?_ | with_reducible refine o_fdv (by first | decide | omega) (by first | decide | omega) ?_ | with_reducible refine o_setL (by assumption) (by decide) (by simp) ?_
  | with_reducible refine oo_addi ?_ | with_reducible refine oo_sub ?_ | with_reducible refine oo_neg ?_ | with_reducible refine w_rev ?_ | with_reducible refine w_m0 ?_
  | with_reducible refine w_par3 ?_ | with_reducible refine w_tyl (by assumption) ?_
  | with_reducible refine o_abs ?_ | with_reducible refine o_eqs (by with_unfolding_all rfl) ?_ | with_reducible refine o_nes (by with_unfolding_all rfl) ?_ | with_reducible refine o_max2 ?_ | with_reducible refine o_min2 ?_ | with_reducible refine o_isiX (by assumption) ?_ | with_reducible refine o_lenl (by assumption) ?_ | with_reducible refine o_lent (by assumption) ?_ | with_reducible refine o_int1b ?_)
local macro_rules | `(tactic| walk_at "ws_7") => `(tactic| repeat (first | walk_at "w1_7" | dsimp only [List.set_cons_zero, List.set_cons_succ]))
namespace LB
def spRight : Sp := fun vs H Q _ => ∃ (p : Addr) (N : Nat), vs = [.ref p] ∧ Pot H p N ∧ 3000 ≤ N ∧ ∀ H', Keep (At p) H H' → Q (.bl true) H'
theorem spRight_arity {vs : List V} {H : Hp} {Q : VK} {E : XK} (h : spRight vs H Q E) : vs.length = 1 := by obtain ⟨_, _, rfl, _⟩ := h; rfl

def t__law_right_1 (K : PySem.W.Frag) : TS :=
  (tSeq (tAsg (tCall (spBentN 2) [] E0 (tCons (tVar 0) (tCons (tVar 3) (tCons (tC (V.int 2)) tNil)))) (gName 5))
    (tDrop (tBM K "list" rExtendA (tVar 2) (tCons (tLst (tCons (tVar 5) (tCons (tCall (spBentN 2) [] E0 (tCons (tVar 0) (tCons (tVar 5) (tCons (tC (V.int 2)) tNil)))) tNil))) tNil))))

def t__law_right_2 (K : PySem.W.Frag) : TS :=
  (tSeq (tDrop (tBM K "list" rAppend (tVar 2) (tCons (tVar 3) tNil)))
    (tFor (iRng1 (tCons (tC (V.int 4)) tNil)) (gName 4)
    (t__law_right_1 K)))

def t__law_right_3 (K : PySem.W.Frag) : TS :=
  (tSeq (tPar 7 8 (tCons (tCB rRepr (tCons (tVar 6) tNil)) (tCons (tCall spIsCall [] E0 (tCons (tVar 6) tNil)) tNil)))
    (tIfS (tOr (tTest (tOp (rNeA K) (tCB rRepr (tCons (tLst (tCons (tCall spIsOp [] E0 (tCons (tVar 6) tNil)) (tCons (tCallW spIsOp (fun {α : Type} (us ws : List α) => [(ws.drop 0).head?].filterMap id) 1 E0 (tCons (tVar 6) tNil)) tNil))) tNil)) (tCB rRepr (tCons (tLst (tCons (tVar 8) (tCons (tVar 8) tNil))) tNil)))) (tTest (tOp (rNeA K) (tCB rRepr (tCons (tVar 6) tNil)) (tVar 7))))
    (tRet (tC (V.bl false))) tNext))

def t__law_right (K : PySem.W.Frag) : TS :=
  (tSeq (tAsg (tOp rPowI (tC (V.int 10)) (tC (V.int 15))) (gName 1))
    (tSeq (tAsg (tLst (tCons (tTup (tCons (tC (V.str "write")) (tCons (tOp rPowI (tC (V.int 10)) (tC (V.int 9))) (tCons (tUn rNegI (tVar 1)) (tCons (tVar 1) tNil))))) (tCons (tTup (tCons (tC (V.str "write")) (tCons (tOp (rAddA K) (tOp rPowI (tC (V.int 10)) (tC (V.int 9))) (tC (V.int 1))) (tCons (tC (V.int 0)) (tCons (tC (V.int 0)) tNil))))) (tCons (tTup (tCons (tC (V.str "read")) (tCons (tC (V.int 0)) (tCons (tVar 1) (tCons (tVar 1) tNil))))) (tCons (tTup (tCons (tC (V.str "write")) (tCons (tC (V.int 0)) (tCons (tC (V.int 0)) (tCons (tC (V.int 0)) tNil))))) tNil))))) (gName 2))
    (tSeq (tAsg (tOp (rAddA K) (tVar 2) (tLst (tCons (tTup (tCons (tC (V.str "read")) (tCons (tC (V.int 0)) (tCons (tOp rSubI (tUn rNegI (tVar 1)) (tC (V.int 1))) (tCons (tC (V.int 0)) tNil))))) (tCons (tTup (tCons (tC (V.str "read")) (tCons (tC (V.int 0)) (tCons (tC (V.int 0)) (tCons (tOp (rAddA K) (tVar 1) (tC (V.int 1))) tNil))))) (tCons (tTup (tCons (tC (V.str "read")) (tCons (tUn rNegI (tC (V.int 1))) (tCons (tC (V.int 0)) (tCons (tC (V.int 0)) tNil))))) (tCons (tTup (tCons (tC (V.str "read")) (tCons (tC (V.int 3)) (tCons (tC (V.int 1)) (tCons (tC (V.int 0)) tNil))))) tNil)))))) (gName 2))
    (tSeq (tAsg (tOp (rAddA K) (tVar 2) (tLst (tCons (tTup (tCons (tC (V.str "read")) (tCons (tC (V.bl true)) (tCons (tC (V.int 0)) (tCons (tC (V.int 0)) tNil))))) (tCons (tTup (tCons (tC (V.str "read")) (tCons (tC (V.int 1)) (tCons (tC (V.bl false)) (tCons (tC (V.int 0)) tNil))))) (tCons (tTup (tCons (tC (V.str "read")) (tCons (tC (V.int 1)) (tCons (tC (V.int 0)) (tCons (tC (V.bl true)) tNil))))) (tCons (tLst (tCons (tC (V.str "read")) (tCons (tC (V.int 1)) (tCons (tC (V.int 0)) (tCons (tC (V.int 0)) tNil))))) (tCons (tC (V.str "read")) (tCons (tC V.non) tNil)))))))) (gName 2))
    (tSeq (tAsg (tOp (rAddA K) (tVar 2) (tLst (tCons (tTup (tCons (tC (V.str "read")) (tCons (tC (V.int 1)) (tCons (tC (V.int 0)) tNil)))) (tCons (tTup (tCons (tC (V.str "read")) (tCons (tC (V.int 1)) (tCons (tC (V.int 0)) (tCons (tC (V.int 0)) (tCons (tC (V.int 0)) tNil)))))) (tCons (tTup (tCons (tC (V.str "Read")) (tCons (tC (V.int 1)) (tCons (tC (V.int 0)) (tCons (tC (V.int 0)) tNil))))) (tCons (tTup (tCons (tC (V.int 0)) (tCons (tC (V.int 1)) (tCons (tC (V.int 0)) (tCons (tC (V.int 0)) tNil))))) (tCons (tTup tNil) (tCons (tLst tNil) (tCons tDNewK (tCons (tC (V.int 0)) (tCons (tC (V.bl true)) (tCons (tC (V.str "")) tNil)))))))))))) (gName 2))
    (tSeq (tDrop (tBM K "list" rAppend (tVar 2) (tCons (tTup (tCons (tTup (tCons (tC (V.str "read")) tNil)) (tCons (tC (V.int 1)) (tCons (tC (V.int 0)) (tCons (tC (V.int 0)) tNil))))) tNil)))
    (tSeq (tFor (iSeq K (tOp (rAddA K) (tCall spWild [] E0 (tCons (tVar 0) (tCons (tC (V.int 12)) (tCons (tC (V.int 20)) tNil)))) (tCall spTrue [] E0 (tCons (tVar 0) (tCons (tC (V.int 6)) (tCons (tC (V.int 3)) (tCons (tC (V.int 5)) tNil))))))) (gName 3)
    (t__law_right_2 K))
    (tSeq (tFor (iSeq K (tVar 2)) (gName 6)
    (t__law_right_3 K))
    (tRet (tC (V.bl true)))))))))))

def flatOk : V → Bool
  | .non => true
  | .bl _ => true
  | .int i => decide (i.natAbs ≤ 10 ^ 30)
  | .str x => x.cps.toList.all (fun c => decide (c < 128)) && decide (x.length ≤ 30)
  | _ => false
theorem good_flat {S : Addr → Prop} {H : Hp} {n k w : Nat} {v : V} (h : flatOk v = true) (hn : n ≤ 10 ^ 30) (hw : 101 ≤ w) : Good S H n k w v := by
  cases v with
  | non => exact good_non
  | bl b => exact good_bl
  | int i => exact good_int (by simp only [flatOk, decide_eq_true_eq] at h; omega) hn hw
  | str x =>
    simp only [flatOk, Bool.and_eq_true, decide_eq_true_eq] at h
    exact good_lit h.1 h.2 (by omega)
  | _ => cases h
theorem good_tupG {S : Addr → Prop} {H : Hp} {n k w m : Nat} {a : Addr} {xs : List V} (e : H a = some (.tup xs)) (h : ∀ v ∈ xs, Good S H n k m v) (hw : xs.length * (m + 1) ≤ w) : Good S H n (k + 1) w (.ref a) := by
  obtain ⟨ds, h1, h2⟩ := dds_of_all (P := Nice n k m) h
  refine good_tup e h1 (nice_tup (fun d hd => (h2 d hd).ok) (fun d hd => (h2 d hd).dp) (Nat.le_trans ?_ hw))
  rw [h1.length]
  clear h1 hw h e
  induction ds with
  | nil => simp [PyData.weightAll]
  | cons d ds ih =>
    have h3 := (h2 d List.mem_cons_self).wt
    have h4 := ih fun e he => h2 e (List.mem_cons_of_mem _ he)
    simp only [PyData.weightAll, List.length_cons]
    rw [Nat.add_mul, Nat.one_mul]
    omega
theorem good_lstG {S : Addr → Prop} {H : Hp} {n k w m : Nat} {a : Addr} {xs : List V} (ha : ¬ S a) (e : H a = some (.lst xs)) (h : ∀ v ∈ xs, Good S H n k m v) (hw : xs.length * (m + 1) ≤ w) : Good S H n (k + 1) w (.ref a) := by
  obtain ⟨ds, h1, h2⟩ := dds_of_all (P := Nice n k m) h
  refine good_lst ha e h1 (nice_list (fun d hd => (h2 d hd).ok) (fun d hd => (h2 d hd).dp) (Nat.le_trans ?_ hw))
  rw [h1.length]
  clear h1 hw h e
  induction ds with
  | nil => simp [PyData.weightAll]
  | cons d ds ih =>
    have h3 := (h2 d List.mem_cons_self).wt
    have h4 := ih fun e he => h2 e (List.mem_cons_of_mem _ he)
    simp only [PyData.weightAll, List.length_cons]
    rw [Nat.add_mul, Nat.one_mul]
    omega
theorem big2 : 2 ≤ 10 ^ 30 := by decide +kernel
/-- a tuple of scalars -/
theorem good_T {S : Addr → Prop} {H : Hp} {a : Addr} {xs : List V} (e : H a = some (.tup xs)) (h : xs.all flatOk = true) (hl : xs.length ≤ 5) : Good S H 2 3 7178 (.ref a) := by
  refine (good_tupG (n := 2) (k := 0) (m := 101) (w := 510) e (fun v hv => good_flat ((List.all_eq_true.mp h) v hv) big2 (by omega)) ?_).mono (by omega) (by omega) (by omega)
  have : xs.length * (101 + 1) ≤ 5 * (101 + 1) := Nat.mul_le_mul_right _ hl
  omega
theorem good_L {S : Addr → Prop} {H : Hp} {a : Addr} {xs : List V} (ha : ¬ S a) (e : H a = some (.lst xs)) (h : xs.all flatOk = true) (hl : xs.length ≤ 5) : Good S H 2 3 7178 (.ref a) := by
  refine (good_lstG (n := 2) (k := 0) (m := 101) (w := 510) ha e (fun v hv => good_flat ((List.all_eq_true.mp h) v hv) big2 (by omega)) ?_).mono (by omega) (by omega) (by omega)
  have : xs.length * (101 + 1) ≤ 5 * (101 + 1) := Nat.mul_le_mul_right _ hl
  omega
theorem good_F {S : Addr → Prop} {H : Hp} {v : V} (h : flatOk v = true) : Good S H 2 3 7178 v := good_flat h big2 (by omega)
theorem op_nice {o : Op} (h : o.ok) : Nice 0 1 408 o.dat := by
  obtain ⟨_, h1, h2, h3, h4, h5⟩ := h
  have b : ∀ i : Int, -1000000000000000 ≤ i → i ≤ 1000000000000000 → okD 0 (.int i) ∧ (PyData.int i).weight ≤ 101 := fun i a c => by
    have : (1000000000000000 : Nat) ≤ 10 ^ 30 := by decide +kernel
    have q := nice_int (n := 0) (k := 0) (w := 101) (i := i) (by omega) (by omega) (by omega)
    exact ⟨q.ok, q.wt⟩
  have s : okD 0 (.str (kindS o.w)) ∧ (PyData.str (kindS o.w)).weight ≤ 101 := by
    simp only [okD, PyData.weight]
    cases o.w
    · exact ⟨ascii_lit (by decide), by decide⟩
    · exact ⟨ascii_lit (by decide), by decide⟩
  have v1 := b o.v (by omega) (by omega)
  have v2 := b o.b (by omega) (by omega)
  have v3 := b o.e (by omega) (by omega)
  refine nice_tup (fun d hd => ?_) (fun d hd => ?_) ?_
  · simp only [List.mem_cons, List.not_mem_nil, or_false] at hd
    rcases hd with rfl | rfl | rfl | rfl
    · exact s.1
    · exact v1.1
    · exact v2.1
    · exact v3.1
  · simp only [List.mem_cons, List.not_mem_nil, or_false] at hd
    rcases hd with rfl | rfl | rfl | rfl <;> simp only [PyData.depth] <;> omega
  · have := s.2
    have := v1.2
    have := v2.2
    have := v3.2
    simp only [PyData.weightAll]
    omega
theorem Good.toS {S S' : Addr → Prop} {H : Hp} {n k w : Nat} {v : V} (h : Good S H n k w v) (m : ∀ b, H b ≠ none → S' b → S b) : Good S' H n k w v := let ⟨d, h1, h2⟩ := h; ⟨d, h1.mono m, h2⟩
theorem o_repr {S : Addr → Prop} {H : Hp} {Q : VK} {x : V} {d : PyData} {n k w : Nat} (hd : DD S H x d) (hn : Nice n k w d) (h1 : n ≤ 1000) (h2 : k ≤ 60) (h3 : w ≤ 300000) (q : Q (.str d.shown) H) : rRepr [x] H Q :=
  have h := hn.shows h1 h2 h3
  ⟨x, d, S, rfl, hd, h.1, h.2.1, h.2.2, q⟩
theorem w_callW {sp : Sp} {pi : {α : Type} → List α → List α → List α} {m : Nat} {E : XK} {tk : TA} {σ : LB.St} {H : Hp} {Q : VK} (h : tk σ H fun zs H1 => zs.length = m ∧ sp (pi [] zs) H1 Q E) : tCallW sp pi m E tk σ H Q := h
theorem bools_nice {b c : Bool} : Nice 0 1 2 (.list [.bool b, .bool c]) := by
  refine nice_list (fun d hd => ?_) (fun d hd => ?_) (by simp only [PyData.weightAll, PyData.weight]; omega)
  · simp only [List.mem_cons, List.not_mem_nil, or_false] at hd
    rcases hd with rfl | rfl <;> simp only [okD]
  · simp only [List.mem_cons, List.not_mem_nil, or_false] at hd
    rcases hd with rfl | rfl <;> simp only [PyData.depth] <;> omega
theorem some_more {K : PySem.W.Frag} {H : Hp} {P : Hp → V → Prop} {R : V → Hp → Prop} {l m : Addr} {xs ys : List V} (hP : ∀ {v : V} {H H1 : Hp}, P H v → Keep NoS H H1 → P H1 v)
    (e1 : H l = some (.lst xs)) (e2 : H m = some (.lst ys)) (z1 : xs.length ≤ 100) (z2 : ys.length ≤ 100) (h1 : ∀ v ∈ xs, P H v) (h2 : ∀ v ∈ ys, P H v)
    (r : ∀ q H9 zs, New H H9 q (.lst zs) → zs.length = xs.length + ys.length → (∀ v ∈ zs, P H v) → R (.ref q) H9) :
    rAddA K (.ref l) (.ref m) H R :=
  o_addL e1 e2 (Nat.le_trans (by omega : _ ≤ 1000) (by decide)) fun q2 H2 n2 => r q2 H2 _ n2 (by rw [List.length_append]) (all_app h1 h2)
/-- loop 1: what holds between two turns -/
def RI (p s : Addr) (H0 : Hp) (x3 : Option V) (σ : LB.St) (H' : Hp) (n M : Nat) : Prop := ∃ (zs : List V) (x4 x5 : Option V), σ = [some (.ref p), some (.int 1000000000000000), some (.ref s), x3, x4, x5, none, none, none] ∧
  Keep (At p) H0 H' ∧ Pot H' p M ∧ H' s = some (.lst zs) ∧ zs.length ≤ n ∧ ∀ v ∈ zs, Good (Or2 p s) H' 2 3 7178 v
theorem pure__law_right {K : PySem.W.Frag} {vs : List V} {H : Hp} {Q : VK} {E : XK} (h : spRight vs H Q E) : t__law_right K { nx := fun _ H' => Q .non H', rt := Q } (start ["pot", "far", "some", "one", "turn", "bent", "thing", "kept", "due"] vs) H := by
  obtain ⟨p, N, rfl, pt, hN, q⟩ := h
  show t__law_right K _ [some (.ref p), none, none, none, none, none, none, none, none] H
  unfold t__law_right
  walk_at "ws_7"
  refine o_pow ⟨by decide, by decide +kernel⟩ ?_
  walk_at "ws_7"
  rw [show (10 : Int) ^ (15 : Int).toNat = 1000000000000000 by decide +kernel]
  refine o_pow ⟨by decide, by decide +kernel⟩ ?_
  walk_at "ws_7"
  rw [show (10 : Int) ^ (9 : Int).toNat = 1000000000 by decide +kernel]
  refine k_tup (by simp; decide) fun a1 A1 m1 => ?_
  walk_at "ws_7"
  refine o_pow ⟨by decide, by decide +kernel⟩ ?_
  walk_at "ws_7"
  rw [show (10 : Int) ^ (9 : Int).toNat = 1000000000 by decide +kernel]
  refine k_tup (by simp; decide) fun a2 A2 m2 => ?_
  walk_at "ws_7"
  refine k_tup (by simp; decide) fun a3 A3 m3 => ?_
  walk_at "ws_7"
  refine k_tup (by simp; decide) fun a4 A4 m4 => ?_
  walk_at "ws_7"
  refine k_lst (by simp; decide) fun l1 A5 m5 => ?_
  have g1 : ∀ v ∈ [V.ref a1, V.ref a2, V.ref a3, V.ref a4], Good (At p) A5 2 3 7178 v :=
    all_cons (good_T (m5.get (m4.get (m3.get (m2.get m1.at_)))) (by decide +kernel) (by simp)) (all_cons (good_T (m5.get (m4.get (m3.get m2.at_))) (by decide +kernel) (by simp))
      (all_cons (good_T (m5.get (m4.get m3.at_)) (by decide +kernel) (by simp)) (all_cons (good_T (m5.get m4.at_) (by decide +kernel) (by simp)) all_nil)))
  have kA : Keep NoS H A5 := (((m1.keep.trans m2.keep).trans m3.keep).trans m4.keep).trans m5.keep
  have hl1 := m5.at_
  generalize hx1 : [V.ref a1, V.ref a2, V.ref a3, V.ref a4] = xs1 at g1 hl1 ⊢
  have z1 : xs1.length = 4 := by rw [← hx1]; rfl
  clear m1 m2 m3 m4 m5
  walk_at "ws_7"
  -- the second four
  refine k_tup (by simp; decide) fun b1 B1 m1 => ?_
  walk_at "ws_7"
  refine k_tup (by simp; decide) fun b2 B2 m2 => ?_
  walk_at "ws_7"
  refine k_tup (by simp; decide) fun b3 B3 m3 => ?_
  walk_at "ws_7"
  refine k_tup (by simp; decide) fun b4 B4 m4 => ?_
  walk_at "ws_7"
  refine k_lst (by simp; decide) fun l2 B5 m5 => ?_
  walk_at "ws_7"
  have kB : Keep NoS A5 B5 := (((m1.keep.trans m2.keep).trans m3.keep).trans m4.keep).trans m5.keep
  refine some_more (P := fun H v => Good (At p) H 2 3 7178 v) (fun h e => h.keep e.of0) (kB.all _ _ id hl1) m5.at_ (by omega) (by simp) (fun v hv => (g1 v hv).keep kB.of0)
    (all_cons (good_T (m5.get (m4.get (m3.get (m2.get m1.at_)))) (by decide +kernel) (by simp)) (all_cons (good_T (m5.get (m4.get (m3.get m2.at_))) (by decide +kernel) (by simp))
      (all_cons (good_T (m5.get (m4.get m3.at_)) (by decide +kernel) (by simp)) (all_cons (good_T (m5.get m4.at_) (by decide +kernel) (by simp)) all_nil)))) fun l3 B6 xs2 n6 z2 g2 => ?_
  have k2 : Keep NoS H B6 := (kA.trans kB).trans n6.keep
  have g2 : ∀ v ∈ xs2, Good (At p) B6 2 3 7178 v := fun v hv => (g2 v hv).keep n6.keep
  have hl3 := n6.at_
  have z2 : xs2.length = 8 := by rw [z2, z1]; rfl
  clear m1 m2 m3 m4 m5 kA kB hl1 g1 hx1 n6
  walk_at "ws_7"
  -- the third
  refine k_tup (by simp; decide) fun c1 C1 m1 => ?_
  walk_at "ws_7"
  refine k_tup (by simp; decide) fun c2 C2 m2 => ?_
  walk_at "ws_7"
  refine k_tup (by simp; decide) fun c3 C3 m3 => ?_
  walk_at "ws_7"
  refine k_lst (by simp; decide) fun c4 C4 m4 => ?_
  walk_at "ws_7"
  refine k_lst (by simp; decide) fun l4 C5 m5 => ?_
  walk_at "ws_7"
  have hP : ∀ b, At p b → H b ≠ none := fun b hb e => by
    rw [hb] at e
    obtain ⟨ys, hy⟩ := pt.some
    rw [hy] at e
    cases e
  have kC3 : Keep NoS B6 C3 := (m1.keep.trans m2.keep).trans m3.keep
  have kC : Keep NoS B6 C5 := (kC3.trans m4.keep).trans m5.keep
  refine some_more (P := fun H v => Good (At p) H 2 3 7178 v) (fun h e => h.keep e.of0) (kC.all _ _ id hl3) m5.at_ (by omega) (by simp) (fun v hv => (g2 v hv).keep kC.of0)
    (all_cons (good_T (m5.get (m4.get (m3.get (m2.get m1.at_)))) (by decide +kernel) (by simp)) (all_cons (good_T (m5.get (m4.get (m3.get m2.at_))) (by decide +kernel) (by simp))
      (all_cons (good_T (m5.get (m4.get m3.at_)) (by decide +kernel) (by simp)) (all_cons (good_L (not_S hP (nos_free (k2.trans kC3) m4.no)) (m5.get m4.at_) (by decide +kernel) (by simp)) (all_cons (good_F (by decide)) (all_cons (good_F (by decide)) all_nil)))))) fun l5 C6 xs3 n6 z3 g3 => ?_
  have k3 : Keep NoS H C6 := (k2.trans kC).trans n6.keep
  have g3 : ∀ v ∈ xs3, Good (At p) C6 2 3 7178 v := fun v hv => (g3 v hv).keep n6.keep
  have hl5 := n6.at_
  have z3 : xs3.length = 14 := by rw [z3, z2]; rfl
  clear m1 m2 m3 m4 m5 kC3 kC k2 hl3 g2 n6
  walk_at "ws_7"
  -- the fourth
  refine k_tup (by simp; decide) fun d1 D1 m1 => ?_
  walk_at "ws_7"
  refine k_tup (by simp; decide) fun d2 D2 m2 => ?_
  walk_at "ws_7"
  refine k_tup (by simp; decide) fun d3 D3 m3 => ?_
  walk_at "ws_7"
  refine k_tup (by simp; decide) fun d4 D4 m4 => ?_
  walk_at "ws_7"
  refine k_tup (by simp) fun d5 D5 m5 => ?_
  walk_at "ws_7"
  refine k_lst (by simp) fun d6 D6 m6 => ?_
  walk_at "ws_7"
  refine w_dnew fun d7 D7 m7 => ?_
  walk_at "ws_7"
  refine k_lst (by simp; decide) fun l6 D8 m8 => ?_
  walk_at "ws_7"
  have kD5 : Keep NoS C6 D5 := (((m1.keep.trans m2.keep).trans m3.keep).trans m4.keep).trans m5.keep
  have kD : Keep NoS C6 D8 := ((kD5.trans m6.keep).trans m7.keep).trans m8.keep
  refine some_more (P := fun H v => Good (At p) H 2 3 7178 v) (fun h e => h.keep e.of0) (kD.all _ _ id hl5) m8.at_ (by omega) (by simp) (fun v hv => (g3 v hv).keep kD.of0)
    (all_cons (good_T (m8.get (m7.get (m6.get (m5.get (m4.get (m3.get (m2.get m1.at_))))))) (by decide +kernel) (by simp)) (all_cons (good_T (m8.get (m7.get (m6.get (m5.get (m4.get (m3.get m2.at_)))))) (by decide +kernel) (by simp))
      (all_cons (good_T (m8.get (m7.get (m6.get (m5.get (m4.get m3.at_))))) (by decide +kernel) (by simp)) (all_cons (good_T (m8.get (m7.get (m6.get (m5.get m4.at_)))) (by decide +kernel) (by simp)) (all_cons (good_T (m8.get (m7.get (m6.get m5.at_))) (by decide +kernel) (by simp))
        (all_cons (good_L (not_S hP (nos_free (k3.trans kD5) m6.no)) (m8.get (m7.get m6.at_)) (by decide +kernel) (by simp)) (all_cons ⟨_, .dct (not_S hP (nos_free (k3.trans (kD5.trans m6.keep)) m7.no)) (m8.get m7.at_) .nil, nice_dict⟩ (all_cons (good_F (by decide)) (all_cons (good_F (by decide)) (all_cons (good_F (by decide)) all_nil)))))))))) fun s D9 xs4 n9 z4 g4 => ?_
  have k4 : Keep NoS H D8 := k3.trans kD
  have s0 : H s = none := nos_free k4 n9.no
  have ps : p ≠ s := pt.ne s0
  have g4 : ∀ v ∈ xs4, Good (Or2 p s) D9 2 3 7178 v := fun v hv => ((g4 v hv).toS (S' := Or2 p s) fun b hb e => by
    rcases e with e | e
    · exact e
    · rw [e, n9.no] at hb
      exact (hb rfl).elim).keep n9.keep
  have hs9 := n9.at_
  have z4 : xs4.length = 24 := by rw [z4, z3]; rfl
  have k9 : Keep NoS H D9 := k4.trans n9.keep
  clear m1 m2 m3 m4 m5 m6 m7 m8 kD5 kD k3 k4 hl5 g3 n9
  walk_at "ws_7"
  walk_at "ws_7"
  refine k_tup (by simp; decide) fun e1 E1 m1 => ?_
  walk_at "ws_7"
  refine k_tup (by simp; decide) fun e2 E2 m2 => ?_
  walk_at "ws_7"
  have hsE := m2.get (m1.get hs9)
  refine o_app hsE (Nat.lt_of_le_of_lt (by omega : xs4.length ≤ 1000) (by decide)) fun E3 p3 => ?_
  walk_at "ws_7"
  have kE : Keep (At p) H E3 := p3.keep0 ((k9.trans m1.keep).trans m2.keep).of0 s0 hsE
  have kE9 : Keep (Or2 p s) D9 E3 := (m1.keep.trans m2.keep).trans (p3.keep (.inr rfl) hsE)
  have gN : Good (Or2 p s) E2 2 3 7178 (.ref e2) := by
    have i1 : Good (Or2 p s) E2 2 1 510 (.ref e1) := good_tupG (m := 101) (m2.get m1.at_) (all_cons (good_flat (by decide) big2 (by omega)) all_nil) (by simp)
    refine (good_tupG (k := 1) (m := 510) (w := 2044) m2.at_ (all_cons i1 (all_cons (good_flat (by decide) big2 (by omega)) (all_cons (good_flat (by decide) big2 (by omega)) (all_cons (good_flat (by decide) big2 (by omega)) all_nil)))) (by simp)).mono (by omega) (by omega) (by omega)
  have hs3 := p3.at_
  have g5 : ∀ v ∈ xs4 ++ [V.ref e2], Good (Or2 p s) E3 2 3 7178 v := all_app (fun v hv => (g4 v hv).keep kE9) (all_cons (gN.keep (p3.keep (.inr rfl) hsE)) all_nil)
  have z5 : (xs4 ++ [V.ref e2]).length = 25 := by rw [List.length_append, z4]; rfl
  generalize hx5 : xs4 ++ [V.ref e2] = xs5 at hs3 g5 z5
  have pt3 : Pot E3 p N := ((pt.keep ((k9.trans m1.keep).trans m2.keep)).put p3 ps)
  clear g4 gN kE9 hsE p3 m1 m2 hs9 k9 hx5
  -- loop 1
  refine w_forSt ?_
  walk_at "ws_7"
  refine ⟨p, 12, 20, N, rfl, pt3, by omega, by omega, by omega, by omega, by simp; omega, fun F1 t1 ops1 kp1 pt1 dd1 lo1 hl1 ho1 => ?_⟩
  walk_at "ws_7"
  refine ⟨p, 6, 3, 5, N - 104, rfl, pt1, by omega, by omega, by omega, by omega, by omega, by omega, by simp; omega, fun F2 t2 ops2 kp2 pt2 dd2 lo2 hl2 ho2 => ?_⟩
  walk_at "ws_7"
  have dd1 := dd1.keep (kp2.mono fun _ _ => trivial)
  obtain ⟨u1, ys1, eu1, hy1, dy1⟩ := dd1.tupX
  obtain ⟨u2, ys2, eu2, hy2, dy2⟩ := dd2.tupX
  injection eu1 with eu1
  subst eu1
  injection eu2 with eu2
  subst eu2
  have yl1 : ys1.length ≤ 12 := by rw [dy1.length, List.length_map]; simpa using hl1
  have yl2 : ys2.length = 6 := by rw [dy2.length, List.length_map]; simpa using hl2
  refine o_catt hy1 hy2 (Nat.le_trans (by omega : _ ≤ 1000) (by decide)) fun c F3 k3 hc => ?_
  have hops : ∀ v ∈ ys1 ++ ys2, ∃ d, DD All F3 v d ∧ Nice 0 1 408 d := by
    refine all_app (fun v hv => ?_) fun v hv => ?_
    · obtain ⟨d, h1, h2⟩ := all_of_dds (P := Nice 0 1 408) dy1 (fun d hd => by
        obtain ⟨o, ho, rfl⟩ := List.mem_map.mp hd
        exact op_nice (lo1.1 o ho)) v hv
      exact ⟨d, h1.keep k3.of0, h2⟩
    · obtain ⟨d, h1, h2⟩ := all_of_dds (P := Nice 0 1 408) dy2 (fun d hd => by
        obtain ⟨o, ho, rfl⟩ := List.mem_map.mp hd
        exact op_nice (lo2.1 o ho)) v hv
      exact ⟨d, h1.keep k3.of0, h2⟩
  have yl : (ys1 ++ ys2).length ≤ 18 := by rw [List.length_append]; omega
  generalize hys : ys1 ++ ys2 = ys at hc hops yl
  have kp : Keep (At p) E3 F3 := (kp1.trans kp2).trans k3.of0
  have hS : ∀ {A B : Hp}, Keep (At p) A B → Keep (Or2 p s) A B := fun k => k.mono fun b hb => .inl hb
  refine k_Ft hc (fun i σ H' => (∃ x3, RI p s H x3 σ H' (25 + 9 * i) (N - 160 - 72 * i)) ∧ Keep All F3 H') ⟨⟨_, xs5, _, _, rfl, kE.trans kp, (pt2.keep k3).le (by simp; omega), kp.all _ _ (fun e => ps e.symm) hs3, by omega, fun v hv => (g5 v hv).keep (hS kp)⟩, Keep.refl _ _⟩ (fun i σ H' _ h => h.2.tup _ _ hc) ?_ ?_
  · rintro i one σ G0 hi ⟨⟨x3, zs, x4, x5, rfl, kG, ptG, hsG, zl, gG⟩, kF⟩
    have hil : i < ys.length := by
      by_cases h : i < ys.length
      · exact h
      · rw [List.getElem?_eq_none (by omega)] at hi; cases hi
    obtain ⟨d, dd, nd⟩ := hops one (List.mem_of_getElem? hi)
    walk_at "ws_7"
    unfold t__law_right_2
    walk_at "ws_7"
    walk_at "ws_7"
    refine o_app hsG (Nat.lt_of_le_of_lt (by omega : zs.length ≤ 1000) (by decide)) fun G1 p1 => ?_
    walk_at "ws_7"
    have kS1 : Keep (Or2 p s) G0 G1 := p1.keep (.inr rfl) hsG
    have dd1 : DD All G1 one d := (dd.keep kF).keep (p1.keep (S := All) trivial hsG)
    refine k_R1 (by omega) (by omega) (fun j σ H' => RI p s H (some one) σ H' (25 + 9 * i + 1 + 2 * j) (N - 160 - 72 * i - 18 * j) ∧ Keep All G1 H') ⟨⟨zs ++ [one], _, _, rfl, p1.keep0 kG s0 hsG, ptG.put p1 ps, p1.at_, by rw [List.length_append]; simp; omega, all_app (fun v hv => (gG v hv).keep kS1) (all_cons ⟨d, dd1.mono (fun _ _ _ => trivial), nd.mono (by omega) (by omega) (by omega)⟩ all_nil)⟩, Keep.refl _ _⟩ ?_ ?_
    · rintro j σ J0 hj ⟨⟨zs, x4, x5, rfl, kJ, ptJ, hsJ, zlJ, gJ⟩, kG1⟩
      have hj4 : j < 4 := by simpa using hj
      have hE : ∀ {J : Hp} {n : Nat} {ws : List V}, Pot J p n → J s = some (.lst ws) → ∀ b, Or2 p s b → J b ≠ none := fun a1 a2 b hb e => by
        rcases hb with hb | hb
        · rw [hb] at e
          obtain ⟨ys, hy⟩ := a1.some
          rw [hy] at e
          cases e
        · rw [hb, a2] at e
          cases e
      walk_at "ws_7"
      unfold t__law_right_1
      walk_at "ws_7"
      refine ⟨p, one, d, Or2 p s, _, 0, 1, 408, rfl, ptJ, by omega, .inl rfl, hE ptJ hsJ, (dd1.keep kG1).mono (fun _ _ _ => trivial), nd, by omega, by omega, fun J1 v kp1 pt1 gv => ?_⟩
      have hs1 := kp1.all _ _ (fun e => ps e.symm) hsJ
      walk_at "ws_7"
      walk_at "ws_7"
      obtain ⟨dv, hdv, nv⟩ := gv
      refine ⟨p, v, dv, Or2 p s, _, 1, 2, 1762, rfl, pt1, by omega, .inl rfl, hE pt1 hs1, hdv, nv, by omega, by omega, fun J2 u kp2 pt2 gu => ?_⟩
      walk_at "ws_7"
      refine k_lst (by simp; decide) fun l7 J3 n3 => ?_
      walk_at "ws_7"
      have hs3 := n3.get (kp2.all _ _ (fun e => ps e.symm) hs1)
      refine o_extend hs3 n3.at_ (Nat.le_trans (by simp; omega : _ ≤ 1000) (by decide)) fun J4 p4 => ?_
      walk_at "ws_7"
      have kp4 : Keep (Or2 p s) J3 J4 := p4.keep (.inr rfl) hs3
      refine ⟨⟨zs ++ [v, u], _, _, rfl, p4.keep0 ((kJ.trans (kp1.trans kp2)).trans n3.keep) s0 hs3, ((pt2.new n3).put p4 ps).le (by omega), p4.at_, by rw [List.length_append]; simp; omega, all_app (fun w hw => (((gJ w hw).keep (hS (kp1.trans kp2))).keep n3.keep).keep kp4) ?_⟩, ?_⟩
      · refine all_cons ?_ (all_cons ?_ all_nil)
        · exact (((Good.mono ⟨dv, hdv, nv⟩ (by omega) (by omega) (by omega)).keep (hS kp2)).keep n3.keep).keep kp4
        · exact ((gu.mono (by omega) (by omega) (by omega)).keep n3.keep).keep kp4
      · exact ((kG1.trans ((kp1.trans kp2).mono fun _ _ => trivial)).trans n3.keep).trans (p4.keep (S := All) trivial hs3)
    · rintro σ J0 ⟨⟨zs, x4, x5, rfl, kJ, ptJ, hsJ, zlJ, gJ⟩, kG1⟩
      have e4 : (4 : Int).toNat = 4 := rfl
      rw [e4] at zlJ ptJ
      exact ⟨⟨_, zs, _, _, rfl, kJ, ptJ.le (by omega), hsJ, by omega, gJ⟩, (kF.trans (p1.keep (S := All) trivial hsG)).trans kG1⟩
  · rintro σ G0 ⟨⟨x3, zs, x4, x5, rfl, kG, ptG, hsG, zl, gG⟩, kF⟩
    walk_at "ws_7"
    refine w_forSl ?_
    walk_at "ws_7"
    refine k_Fl hsG (fun i σ H' => ∃ x6 x7 x8, σ = [some (.ref p), some (.int 1000000000000000), some (.ref s), x3, x4, x5, x6, x7, x8] ∧ Keep NoS G0 H') ⟨_, _, _, rfl, Keep.refl _ _⟩ (fun i σ H' _ h => by obtain ⟨_, _, _, _, k⟩ := h; exact k.all _ _ id hsG) ?_ ?_
    · rintro i x σ L0 hi ⟨x6, x7, x8, rfl, kL⟩
      obtain ⟨d, dd, nd⟩ := gG x (List.mem_of_getElem? hi)
      have dd := dd.keep (S := Or2 p s) kL.of0
      walk_at "ws_7"
      unfold t__law_right_3
      walk_at "ws_7"
      refine o_repr dd nd (by omega) (by omega) (by omega) ?_
      walk_at "ws_7"
      refine ⟨x, d, _, rfl, dd, fun L1 k1 => ?_⟩
      have dd1 := dd.keep (S := Or2 p s) k1.of0
      walk_at "ws_7"
      refine ⟨x, d, _, rfl, dd1, ?_⟩
      walk_at "ws_7"
      refine w_callW ?_
      walk_at "ws_7"
      refine ⟨rfl, x, d, _, rfl, dd1, ?_⟩
      walk_at "ws_7"
      refine k_lst (by simp; decide) fun r1 L2 n2 => ?_
      walk_at "ws_7"
      refine o_repr (S := NoS) (.lst id n2.at_ (.cons (.bl _) (.cons (.bl _) .nil))) bools_nice (by omega) (by omega) (by omega) ?_
      walk_at "ws_7"
      refine k_lst (by simp; decide) fun r2 L3 n3 => ?_
      walk_at "ws_7"
      refine o_repr (S := NoS) (.lst id n3.at_ (.cons (.bl _) (.cons (.bl _) .nil))) bools_nice (by omega) (by omega) (by omega) ?_
      walk_at "ws_7"
      refine w_iteF (by simp) ?_
      walk_at "ws_7"
      refine o_repr ((dd1.keep n2.keep).keep n3.keep) nd (by omega) (by omega) (by omega) ?_
      walk_at "ws_7"
      refine w_iteF (by simp) ?_
      walk_at "ws_7"
      exact ⟨_, _, _, rfl, ((kL.trans k1).trans n2.keep).trans n3.keep⟩
    · rintro σ L0 ⟨x6, x7, x8, rfl, kL⟩
      walk_at "ws_7"
      exact q L0 (kG.trans kL.of0)
end LB

open PySem PySem.Spec PyProof.Rows L2 LB
/-! the tactic: one step of a reading; many -/
local macro_rules | `(tactic| walk_at "w1_8") => `(tactic| first
  | with_reducible refine w_seq ?_ | with_reducible refine w_asg ?_ | with_reducible refine w_drop ?_ | with_reducible refine w_ret ?_ | with_reducible refine w_next ?_
  | with_reducible refine w_ifs ?_ | with_reducible refine w_forR1 ?_ | with_reducible refine w_forR2 ?_ | with_reducible refine w_forL ?_ | with_reducible refine w_forT ?_ | with_reducible refine w_name ?_ | with_reducible refine w_sub ?_ | with_reducible refine w_par ?_
  | with_reducible refine w_var (by with_unfolding_all rfl) ?_ | with_reducible refine w_c ?_ | with_reducible refine w_op ?_ | with_reducible refine w_un ?_
  | with_reducible refine w_test ?_ | with_reducible refine w_tb ?_ | with_reducible refine w_nil ?_ | with_reducible refine w_cons ?_ | with_reducible refine w_cb ?_ | with_reducible refine w_call ?_
  | with_reducible refine w_not ?_ | with_reducible refine w_and ?_ | with_reducible refine w_or ?_ | with_reducible refine w_andV ?_ | with_reducible refine w_orV ?_ | with_reducible refine w_notV ?_
  | with_reducible refine w_ife ?_ | with_reducible refine w_chain ?_ | with_reducible refine w_bm ?_ | with_reducible refine w_sl ?_ | with_reducible refine w_part ?_ | with_reducible refine w_nopart ?_
  | with_reducible refine w_exb ?_ | with_reducible refine w_exi ?_ | with_reducible refine w_ex2 ?_ | with_reducible refine w_ex3 ?_ | with_reducible refine w_lstrg ?_ | with_reducible refine w_rg2 ?_ | with_reducible refine w_rg1 ?_ | with_reducible refine w_exij ?_ | with_reducible refine w_tup ?_ | with_reducible refine w_lst ?_
  | with_reducible refine o_add ?_ | with_reducible refine o_sub ?_ | with_reducible refine o_neg ?_ | with_reducible refine o_lt ?_ | with_reducible refine o_le ?_ | with_reducible refine o_gt ?_ | with_reducible refine o_ge ?_
  | with_reducible refine o_ixL (by assumption) (by decide) (by with_unfolding_all rfl) ?_ | with_reducible refine o_ixT (by assumption) (by decide) (by with_unfolding_all rfl) ?_
  | with_reducible refine o_mod (by first | decide | omega) ?_ | with_reducible refine o_mul (by first | decide | omega) ?_ | with_reducible refine o_fdv (by first | decide | omega) (by first | decide | omega) ?_ | with_reducible refine o_setL (by assumption) (by decide) (by simp) ?_
  | with_reducible refine oo_addi ?_ | with_reducible refine oo_sub ?_ | with_reducible refine oo_neg ?_ | with_reducible refine w_rev ?_ | with_reducible refine w_m0 ?_
  | with_reducible refine w_par3 ?_ | with_reducible refine w_tyl (by assumption) ?_
  | with_reducible refine o_abs ?_ | with_reducible refine o_eqs (by with_unfolding_all rfl) ?_ | with_reducible refine o_nes (by with_unfolding_all rfl) ?_ | with_reducible refine o_max2 ?_ | with_reducible refine o_min2 ?_ | with_reducible refine o_isiX (by assumption) ?_ | with_reducible refine o_lenl (by assumption) ?_ | with_reducible refine o_lent (by assumption) ?_ | with_reducible refine o_int1b ?_)
local macro_rules | `(tactic| walk_at "ws_8") => `(tactic| repeat (first | walk_at "w1_8" | dsimp only [List.set_cons_zero, List.set_cons_succ]))
namespace LB
def spLaw (K : PySem.W.Frag) : Sp := fun vs H Q _ => ∃ (a : Addr) (ns : List Int), vs = [.ref a] ∧ SqL K H a (ns.map V.int) ∧ ns.length ≤ 63 ∧ ∀ H', Q (.bl true) H'
theorem spLaw_arity {K : PySem.W.Frag} {vs : List V} {H : Hp} {Q : VK} {E : XK} (h : spLaw K vs H Q E) : vs.length = 1 := by obtain ⟨_, _, rfl, _⟩ := h; rfl
theorem w_yes {σ : LB.St} {H : Hp} {Qb : Bool → Hp → Prop} (h : Qb true H) : tYes σ H Qb := h
theorem sql_keep {K : PySem.W.Frag} {H H' : Hp} {a : Addr} {xs : List V} (k : Keep NoS H H') (h : SqL K H a xs) : SqL K H' a xs := by
  rcases h with (h | ⟨o, h⟩) | h
  · exact .inl (.inl (k.all _ _ id h))
  · exact .inl (.inr ⟨o, k.all _ _ id h⟩)
  · exact .inr h

def t_law (K : PySem.W.Frag) : TS :=
  (tRet (tCB (rAll K) (tCons (tLc (iRng1 (tCons (tCB rMax2 (tCons (tC (V.int 1)) (tCons (tCB rMin2 (tCons (tC (V.int 3)) (tCons (tCB (rLen K) (tCons (tVar 0) tNil)) tNil))) tNil))) tNil)) (gName 1) tYes (tCall spRight [] E0 (tCons (tCall (spPot K) [] E0 (tCons (tVar 0) (tCons (tVar 1) tNil))) tNil)) [1]) tNil)))

theorem pure_law {K : PySem.W.Frag} {vs : List V} {H : Hp} {Q : VK} {E : XK} (h : spLaw K vs H Q E) : t_law K { nx := fun _ H' => Q .non H', rt := Q } (start ["script", "k"] vs) H := by
  obtain ⟨a, ns, rfl, sq, len, q⟩ := h
  show t_law K _ [some (.ref a), none] H
  unfold t_law
  walk_at "ws_8"
  show tCB rMax2 _ _ _ _
  walk_at "ws_8"
  refine o_lens sq ?_
  walk_at "ws_8"
  refine ⟨_, rfl, by split <;> (try split) <;> (try split) <;> simp <;> omega, by split <;> (try split) <;> (try split) <;> simp <;> omega, fun D hD => ?_⟩
  generalize hj : (if _ > (1 : Int) then _ else (1 : Int)) = j
  have hj3 : j ≤ 3 := by
    have e : ∀ m : Int, (if m < 3 then m else 3 : Int) ≤ 3 := fun m => by split <;> omega
    have e1 := e ((ns.map V.int).length : Int)
    rw [← hj]
    generalize (if ((ns.map V.int).length : Int) < 3 then ((ns.map V.int).length : Int) else 3 : Int) = m at e1 ⊢
    split <;> omega
  refine lc_range (fun i H' => Keep NoS H H' ∧ ∃ bs : List Bool, H' D = some (.lst (bs.map V.bl)) ∧ bs.all id = true ∧ bs.length = i) ⟨Keep.new hD, [], upd_same, rfl, rfl⟩ ?_ ?_
  · rintro i H1 hi ⟨k1, bs, hb, ht, hl⟩
    have hi3 : (i : Int) < 3 := by omega
    refine ⟨rfl, ?_⟩
    walk_at "ws_8"
    refine w_yes ?_
    refine w_iteT rfl ?_
    walk_at "ws_8"
    refine ⟨a, _, ns, rfl, sql_keep k1 sq, by omega, by omega, len, fun H2 p p0 k2 pt => ?_⟩
    walk_at "ws_8"
    refine ⟨p, _, rfl, pt, by omega, fun H3 k3 => ?_⟩
    have pD : D ≠ p := ne_of_none hb p0
    have hD3 := k3.all _ _ pD (k2.all _ _ id hb)
    have p00 : H p = none := nos_free k1 p0
    have k03 : Keep NoS H H3 := (k1.trans k2).trans0 k3 fun c hc => .inr (by rw [hc]; exact p00)
    refine ⟨_, hD3, by rw [List.length_map, hl]; exact Nat.lt_of_le_of_lt (by omega : i ≤ 1000) (by decide), k03.put0 hD hD3, bs ++ [true], by rw [List.map_append]; exact upd_same, by rw [List.all_append, ht]; rfl, by rw [List.length_append, hl]; rfl⟩
  · rintro H1 ⟨k1, bs, hb, ht, hl⟩
    refine ⟨D, bs, rfl, .inl (.inl hb), ?_⟩
    rw [ht]
    walk_at "ws_8"
    exact q H1
end LB

namespace LB
open PySem PySem.Spec PyProof.Rows L2
/-! ### a log at an address -/
abbrev opT (o : Op) : HO := .tup [.str (kindS o.w), .int o.v, .int o.b, .int o.e]
def LogAt (H : Hp) (t : Addr) (ops : List Op) : Prop := ∃ xs : List V, H t = some (.tup xs) ∧ xs.length = ops.length ∧ ∀ (i : Nat) (o : Op), ops[i]? = some o → ∃ u, xs[i]? = some (.ref u) ∧ H u = some (opT o)
theorem LogAt.keep {S : Addr → Prop} {H H' : Hp} {t : Addr} {ops : List Op} (h : LogAt H t ops) (k : Keep S H H') : LogAt H' t ops := by
  obtain ⟨xs, h1, h2, h3⟩ := h
  refine ⟨xs, k.tup _ _ h1, h2, fun i o e => ?_⟩
  obtain ⟨u, e1, e2⟩ := h3 i o e
  exact ⟨u, e1, k.tup _ _ e2⟩
theorem LogAt.get {H : Hp} {t : Addr} {ops : List Op} (h : LogAt H t ops) {i : Nat} {o : Op} (e : ops[i]? = some o) : ∃ (xs : List V) (u : Addr), H t = some (.tup xs) ∧ xs[i]? = some (.ref u) ∧ H u = some (opT o) := by
  obtain ⟨xs, h1, _, h3⟩ := h
  obtain ⟨u, e1, e2⟩ := h3 i o e
  exact ⟨xs, u, h1, e1, e2⟩
theorem DDs.of_at {S : Addr → Prop} {H : Hp} : ∀ {ops : List Op} {xs : List V}, xs.length = ops.length → (∀ (i : Nat) (o : Op), ops[i]? = some o → ∃ u, xs[i]? = some (.ref u) ∧ H u = some (opT o)) → DDs S H xs (ops.map Op.dat)
  | [], [], _, _ => .nil
  | o :: ops, x :: xs, hl, h => by
    obtain ⟨u, e1, e2⟩ := h 0 o rfl
    have e1 : x = .ref u := Option.some.inj e1
    subst e1
    exact .cons (.tup e2 (.cons (.str _) (.cons (.int _) (.cons (.int _) (.cons (.int _) .nil))))) (DDs.of_at (by simpa using hl) fun i o e => h (i + 1) o e)
theorem LogAt.dd {S : Addr → Prop} {H : Hp} {t : Addr} {ops : List Op} (h : LogAt H t ops) : DD S H (.ref t) (.tuple (ops.map Op.dat)) := by
  obtain ⟨xs, h1, h2, h3⟩ := h
  exact .tup h1 (DDs.of_at h2 h3)
theorem DD.opX {S : Addr → Prop} {H : Hp} {x : V} {o : Op} (h : DD S H x o.dat) : ∃ u, x = .ref u ∧ H u = some (opT o) := by
  obtain ⟨u, ys, rfl, hu, hy⟩ := h.tupX
  obtain ⟨x1, x2, x3, x4, rfl, d1, d2, d3, d4⟩ := hy.four
  rw [d1.strX, d2.intX, d3.intX, d4.intX] at hu
  exact ⟨u, rfl, hu⟩
theorem DDs.ops {S : Addr → Prop} {H : Hp} : ∀ {ops : List Op} {xs : List V}, DDs S H xs (ops.map Op.dat) → ∀ (i : Nat) (o : Op), ops[i]? = some o → ∃ u, xs[i]? = some (.ref u) ∧ H u = some (opT o)
  | [], _, _, i, o, e => by simp at e
  | o :: ops, _, .cons h r, 0, p, e => by
    have e : o = p := Option.some.inj e
    subst e
    obtain ⟨u, rfl, hu⟩ := h.opX
    exact ⟨u, rfl, hu⟩
  | o :: ops, _, .cons h r, i + 1, p, e => DDs.ops r i p e
theorem LogAt.of_dd {S : Addr → Prop} {H : Hp} {t : Addr} {ops : List Op} (h : DD S H (.ref t) (.tuple (ops.map Op.dat))) : LogAt H t ops := by
  obtain ⟨a, xs, e, ha, hx⟩ := h.tupX
  cases e
  exact ⟨xs, ha, by rw [hx.length, List.length_map], DDs.ops hx⟩
/-! ### walks of enumerate over a tuple -/
section
variable {K : PySem.W.Frag} {D : Ends} {σ : LB.St} {H : Hp} {Q : VK} {g : TG} {tb : TS} {a t : Addr} {xs : List V} {s : Nat}
theorem w_forEnT (es : σ[s]? = some (some (.ref a))) (Pv : Nat → LB.St → Hp → Prop) (h0 : Pv 0 σ H) (hG : ∀ i σ H, i ≤ xs.length → Pv i σ H → H a = some (.tup xs))
    (hs : ∀ (i : Nat) (x : V) (σ : LB.St) (H H' : Hp) (T : Addr), xs[i]? = some x → Pv i σ H → New H H' T (.tup [.int (i : Nat), x]) → g (.ref T) σ H' fun σ2 H2 => tb { D with nx := Pv (i + 1), ct := Pv (i + 1), bk := D.nx } σ2 H2)
    (hd : ∀ σ H, Pv xs.length σ H → D.nx σ H) : tFor (iEnA K (tCons (tVar s) tNil)) g tb D σ H := by
  refine .inr (w_cons (w_var es (w_nil ⟨a, xs, rfl, .inl (.inl (hG 0 σ H (Nat.zero_le _) h0)), ?_⟩)))
  refine for_it walk_enT Pv h0 (fun i σ H h1 h2 => .inl (.inl (hG i σ H h1 h2))) ?_ hd
  rintro i v σ H H' hi hp ⟨T, x, y, rfl, hT, rfl, e1, e2⟩
  cases e1
  exact hs i y σ H _ T e2 hp (.mk' hT)
theorem w_lcEnT {tt : TT} {te : TE} {vs : List Nat} (es : σ[s]? = some (some (.ref a))) (ha : H a = some (.tup xs))
    (h : ∀ D, H D = none → ∃ Pv : Nat → Hp → Prop, Pv 0 (upd H D (.lst [])) ∧ (∀ i H', i ≤ xs.length → Pv i H' → H' a = some (.tup xs)) ∧
      (∀ (i : Nat) (x : V) (H1 H2 : Hp) (T : Addr), xs[i]? = some x → Pv i H1 → New H1 H2 T (.tup [.int (i : Nat), x]) → g (.ref T) (wipe σ vs) H2 fun σ2 H3 => wipe σ2 vs = wipe σ vs ∧ tt σ2 H3 fun b H4 =>
        if b = true then te σ2 H4 fun y H5 => ∃ acc, H5 D = some (.lst acc) ∧ acc.length < sizeLine ∧ Pv (i + 1) (upd H5 D (.lst (acc ++ [y]))) else Pv (i + 1) H4) ∧ ∀ H', Pv xs.length H' → Q (.ref D) H') :
    tLc (iEnA K (tCons (tVar s) tNil)) g tt te vs σ H Q := by
  refine .inr (w_cons (w_var es (w_nil ⟨a, xs, rfl, .inl (.inl ha), fun D hD => ?_⟩)))
  obtain ⟨Pv, h0, hG, hs, hd⟩ := h D hD
  refine lc_it walk_enT Pv h0 (fun i H h1 h2 => .inl (.inl (hG i H h1 h2))) ?_ hd
  rintro i v H H' hi hp ⟨T, x, y, rfl, hT, rfl, e1, e2⟩
  cases e1
  exact hs i y H _ T e2 hp (.mk' hT)
theorem w_gt2 {i j : Nat} {u v : V} {T : Addr} {Qn : LB.St → Hp → Prop} (e : H T = some (.tup [u, v])) (h : Qn ((σ.set i (some u)).set j (some v)) H) : gTup K 2 (gCons (gName i) (gCons (gName j) gNil)) (.ref T) σ H Qn :=
  ⟨T, [u, v], rfl, .inl (.inl e), rfl, u, [v], rfl, v, [], rfl, rfl, h⟩
theorem wipe2 {i j : Nat} {a b : Option V} (n : i ≠ j) : wipe (((wipe σ [i, j]).set i a).set j b) [i, j] = wipe σ [i, j] := by
  show (((((σ.set j none).set i none).set i a).set j b).set j none).set i none = (σ.set j none).set i none
  rw [List.set_set, List.set_set, List.set_comm _ _ n, List.set_set, List.set_set]
/-- [i for i, o in enumerate(log) if o[1] == v] -/
theorem lc_idx {k i j : Nat} {v : Int} {ops : List Op} (es : σ[s]? = some (some (.ref t))) (ek : σ[k]? = some (some (.int v))) (lg : LogAt H t ops) (n1 : i ≠ j) (n2 : k ≠ i) (n3 : k ≠ j) (li : i < σ.length) (lj : j < σ.length) (few : ops.length ≤ 200)
    (q : ∀ (p : Addr) (H' : Hp), Keep NoS H H' → H p = none → H' p = some (.lst ((idxOf ops v).map fun n => V.int (n : Nat))) → Q (.ref p) H') :
    tLc (iEnA K (tCons (tVar s) tNil)) (gTup K 2 (gCons (gName i) (gCons (gName j) gNil))) (tTest (tOp (rEqA K) (tOp (rIx K) (tVar j) (tC (V.int 1))) (tVar k))) (tVar i) [i, j] σ H Q := by
  obtain ⟨xs, hx, hl, hi⟩ := id lg
  refine w_lcEnT es hx fun D hD => ⟨fun n H' => Keep NoS H H' ∧ H' D = some (.lst ((idxN ops v n).map fun n => V.int (n : Nat))), ⟨Keep.new hD, upd_same⟩, fun n H' _ h => h.1.tup _ _ hx, ?_, ?_⟩
  · rintro n x H1 H2 T hn ⟨k1, hb⟩ nw
    have ln : n < ops.length := by
      rw [← hl]
      by_cases z : n < xs.length
      · exact z
      · rw [List.getElem?_eq_none (by omega)] at hn; cases hn
    have ho : ops[n]? = some ops[n] := List.getElem?_eq_getElem ln
    obtain ⟨u, e1, e2⟩ := hi n _ ho
    rw [hn] at e1
    cases e1
    refine w_gt2 nw.at_ ⟨wipe2 n1, ?_⟩
    have k2 := k1.trans nw.keep
    have hu := k2.tup _ _ e2
    have hb2 := nw.get hb
    have s1 : ((wipe σ [i, j]).set i (some (V.int (n : Nat)))).set j (some (V.ref u)) = ((σ.set j none).set i (some (V.int (n : Nat)))).set j (some (V.ref u)) := by
      show (((σ.set j none).set i none).set i _).set j _ = _
      rw [List.set_set]
    rw [s1]
    have g1 : (((σ.set j none).set i (some (V.int (n : Nat)))).set j (some (V.ref u)))[j]? = some (some (V.ref u)) := by simp [lj]
    have g2 : (((σ.set j none).set i (some (V.int (n : Nat)))).set j (some (V.ref u)))[k]? = some (some (V.int v)) := by
      rw [List.getElem?_set_ne (Ne.symm n3), List.getElem?_set_ne (Ne.symm n2), List.getElem?_set_ne (Ne.symm n3)]
      exact ek
    have g3 : (((σ.set j none).set i (some (V.int (n : Nat)))).set j (some (V.ref u)))[i]? = some (some (V.int (n : Nat))) := by
      rw [List.getElem?_set_ne (Ne.symm n1)]
      simp [li]
    refine w_test (w_op (w_op (w_var g1 (w_c (o_ixt (n := 1) hu rfl (w_var g2 ?_))))))
    refine o_eqs rfl ⟨_, rfl, ?_⟩
    have es : decide (V.int ops[n].v = V.int v) = decide (ops[n].v = v) := by simp
    rw [es]
    refine w_ite (fun c => ?_) (fun c => ?_)
    · refine w_var g3 ⟨_, hb2, ?_, k2.put0 hD hb2, ?_⟩
      · rw [List.length_map]
        have := idxN_len (ops := ops) (v := v) (n := n)
        exact Nat.lt_of_le_of_lt (by omega : _ ≤ 1000) (by decide)
      · rw [idxN_succ ho, if_pos c, List.map_append, upd_same]
        rfl
    · refine ⟨k2, ?_⟩
      rw [idxN_succ ho, if_neg c]
      exact hb2
  · rintro H' ⟨k1, hb⟩
    rw [hl] at hb
    exact q D H' k1 hD hb
/-! ### further steps -/
def kDget (Q : VK) (x y : V) : Hp → Prop := fun H2 => ∃ a v, x = .ref a ∧ DGet H2 a y (some v) ∧ Q v H2
def kDin (Q : VK) (y x : V) : Hp → Prop := fun H2 => ∃ a o, x = .ref a ∧ DGet H2 a y o ∧ Q (.bl o.isSome) H2
def kDni (Q : VK) (y x : V) : Hp → Prop := fun H2 => ∃ a o, x = .ref a ∧ DGet H2 a y o ∧ Q (.bl (!o.isSome)) H2
def kDput (R : Hp → Prop) (v x y : V) : Hp → Prop := fun H3 => ∃ a H4, x = .ref a ∧ DPut H3 a y v H4 ∧ R H4
theorem w_dget {td ty : TE} (h : td σ H fun x H1 => ty σ H1 fun y H2 => kDget Q x y H2) : tDGet td ty σ H Q := h
theorem w_din {td ty : TE} (h : ty σ H fun y H1 => td σ H1 fun x H2 => kDin Q y x H2) : tDIn ty td σ H Q := h
theorem w_dni {td ty : TE} (h : ty σ H fun y H1 => td σ H1 fun x H2 => kDni Q y x H2) : tDNotIn ty td σ H Q := h
theorem w_dput {td ty tv : TE} (h : tv σ H fun v H1 => td σ H1 fun x H2 => ty σ H2 fun y H3 => kDput (D.nx σ) v x y H3) : sDPut td ty tv D σ H := h
theorem dget_some {vs : List Int} {f : Int → V} {v : Int} : (if v ∈ vs then some (f v) else none).isSome = decide (v ∈ vs) := by by_cases z : v ∈ vs <;> simp [z]
theorem o_dget {vs : List Int} {f : Int → V} {v : Int} (e : H a = some (.dK (mkD vs f))) (hv : v ∈ vs) (h : Q (f v) H) : kDget Q (.ref a) (.int v) H :=
  ⟨a, f v, rfl, by have := mkD_get (v := v) e; rwa [if_pos hv] at this, h⟩
theorem o_dgetR {vs : List Int} {f : Int → V} {v : Int} (e : Rd H a (.dK (mkD vs f))) (hv : v ∈ vs) (h : Q (f v) H) : kDget Q (.ref a) (.int v) H :=
  ⟨a, f v, rfl, .inl ⟨_, .inl v, e, rfl, by rw [mkD_val, if_pos hv]⟩, h⟩
theorem o_dgetS {x y : V} (e : DGet H a y (some x)) (h : Q x H) : kDget Q (.ref a) y H := ⟨a, x, rfl, e, h⟩
theorem o_dni {vs : List Int} {f : Int → V} {v : Int} (e : H a = some (.dK (mkD vs f))) (h : Q (.bl (!decide (v ∈ vs))) H) : kDni Q (.int v) (.ref a) H :=
  ⟨a, _, rfl, mkD_get e, by rw [dget_some]; exact h⟩
theorem o_din {vs : List Int} {f : Int → V} {v : Int} (e : H a = some (.dK (mkD vs f))) (h : Q (.bl (decide (v ∈ vs))) H) : kDin Q (.int v) (.ref a) H :=
  ⟨a, _, rfl, mkD_get e, by rw [dget_some]; exact h⟩
theorem o_dput {vs : List Int} {f : Int → V} {v : Int} {x : V} {R : Hp → Prop} (e : H a = some (.dK (mkD vs f))) (few : vs.length ≤ 1000) (h : R (upd H a (.dK (putK (mkD vs f) (.inl v) x)))) : kDput R x (.ref a) (.int v) H :=
  ⟨a, _, rfl, DPut.k (k := .inl v) e (by rw [mkD_len]; exact Nat.lt_of_le_of_lt few (by decide)), h⟩
theorem o_niIntsT {ws : List Int} {z : Int} (e : H a = some (.tup (ws.map V.int))) (q : Q (.bl (!decide (z ∈ ws))) H) : rNiA K (.int z) (.ref a) H Q :=
  .inl ⟨a, _, rfl, .inr (.inl (.inl e)), rfl, flat_ints, by rw [if_pos rfl, inV_ints]; exact q⟩
end
/-! ### how a dict of places grows -/
abbrev bstF (key : Op → Int) (ops : List Op) (n : Nat) : Int → V := fun v => .int (((bst key ops v n).getD 0 : Nat) : Int)
theorem bst_in {key : Op → Int} {ops : List Op} {v : Int} {n : Nat} (hn : n ≤ ops.length) : v ∈ keysN (ops.take n) ↔ ∃ j, bst key ops v n = some j := by
  rw [(keysN_facts _).1]
  cases hb : bst key ops v n with
  | none =>
    have no := bst_none.mp hb
    constructor
    · intro h
      obtain ⟨o, ho, e⟩ := List.mem_map.mp h
      obtain ⟨i, hi, e2⟩ := List.mem_iff_getElem.mp ho
      rw [List.length_take] at hi
      rw [List.getElem_take] at e2
      exact absurd e (no i o (by omega) (by rw [List.getElem?_eq_getElem (by omega), e2]))
    · rintro ⟨j, h⟩; cases h
  | some j =>
    obtain ⟨q, b⟩ := bst_some hb
    refine ⟨fun _ => ⟨j, rfl⟩, fun _ => List.mem_map.mpr ⟨q, ?_, b.val⟩⟩
    have h1 : (ops.take n)[j]? = some q := by rw [List.getElem?_take_of_lt b.lt]; exact b.at_
    exact List.mem_of_getElem? h1
theorem bst_succ {key : Op → Int} {ops : List Op} {v : Int} {n : Nat} {o : Op} (ho : ops[n]? = some o) : bst key ops v (n + 1) = if o.v = v then (match bst key ops v n with | none => some n | some j => if key o < keyAt key ops j then some n else some j) else bst key ops v n := by
  (rw [bst, ho]) <;> (
    by_cases e : o.v = v
    · (simp only [e, if_true]) <;> (cases bst key ops v n <;> rfl)
    · simp only [e, if_false])
theorem keys_succ {ops : List Op} {n : Nat} {o : Op} (ho : ops[n]? = some o) : keysN (ops.take (n + 1)) = if o.v ∈ keysN (ops.take n) then keysN (ops.take n) else keysN (ops.take n) ++ [o.v] := by
  (rw [List.take_add_one, ho]) <;> exact keysN_snoc
theorem grow_new {key : Op → Int} {ops : List Op} {n : Nat} {o : Op} (ho : ops[n]? = some o) (hv : o.v ∉ keysN (ops.take n)) :
    putK (mkD (keysN (ops.take n)) (bstF key ops n)) (.inl o.v) (.int (n : Nat)) = mkD (keysN (ops.take (n + 1))) (bstF key ops (n + 1)) := by
  have ln : n < ops.length := by
    by_cases z : n < ops.length
    · exact z
    · rw [List.getElem?_eq_none (by omega)] at ho; cases ho
  rw [mkD_put, keys_succ ho]
  refine mkD_congr fun u _ => ?_
  simp only [bstF]
  rw [bst_succ ho]
  by_cases e : u = o.v
  · subst e
    have : bst key ops o.v n = none := by
      cases z : bst key ops o.v n with
      | none => rfl
      | some j => exact absurd ((bst_in (by omega)).mpr ⟨j, z⟩) hv
    simp [this]
  · have e2 : ¬ o.v = u := fun z => e z.symm
    simp [e, e2]
theorem grow_old {key : Op → Int} {ops : List Op} {n : Nat} {o : Op} (ho : ops[n]? = some o) (hv : o.v ∈ keysN (ops.take n)) :
    ∃ j q, bst key ops o.v n = some j ∧ ops[j]? = some q ∧ (key o < key q → putK (mkD (keysN (ops.take n)) (bstF key ops n)) (.inl o.v) (.int (n : Nat)) = mkD (keysN (ops.take (n + 1))) (bstF key ops (n + 1))) ∧
      (¬ key o < key q → mkD (keysN (ops.take n)) (bstF key ops n) = mkD (keysN (ops.take (n + 1))) (bstF key ops (n + 1))) := by
  have ln : n < ops.length := by
    by_cases z : n < ops.length
    · exact z
    · rw [List.getElem?_eq_none (by omega)] at ho; cases ho
  obtain ⟨j, hj⟩ := (bst_in (key := key) (by omega)).mp hv
  obtain ⟨q, b⟩ := bst_some hj
  have ek : keyAt key ops j = key q := by unfold keyAt; rw [b.at_]
  refine ⟨j, q, hj, b.at_, fun c => ?_, fun c => ?_⟩
  · rw [mkD_put, keys_succ ho]
    refine mkD_congr fun u _ => ?_
    simp only [bstF]
    rw [bst_succ ho]
    by_cases e : u = o.v
    · subst e
      simp [hj, ek, c]
    · have e2 : ¬ o.v = u := fun z => e z.symm
      simp [e, e2]
  · rw [keys_succ ho, if_pos hv]
    refine mkD_congr fun u _ => ?_
    simp only [bstF]
    rw [bst_succ ho]
    by_cases e : o.v = u
    · subst e
      simp [hj, ek, c]
    · simp [e]
end LB

namespace LB
open PySem PySem.Spec PyProof.Rows L2
/-! ### len(set(xs)), xs a list of ints -/
def nDis (ns : List Int) : Nat := (PyProof.Rows.firstMet (fun i => ns.getD i 0) ns.length).length
def tLenSet (te : TE) : TE := fun σ H Q => te σ H fun x H1 => ∃ a ns, x = .ref a ∧ H1 a = some (.lst (ns.map V.int)) ∧ ns.length ≤ 4000 ∧ Q (.int (nDis ns)) H1
theorem pe_lenset {X : Cx} {e : Expr} {te : TE} {p p2 pos pos2 : Pos} {k : Nat} (hr : Room k X.A) (hg : Gl X "len") (hm : X.mg "len" = none) (hg2 : Gl X "set") (hm2 : X.mg "set" = none) (he : PE X e te)
    (st : starEach [.Call (.Name "set" p2) [e] [] pos2] X.env = (false, eval (.Call (.Name "set" p2) [e] [] pos2) X.env) :: starEach [] X.env := by rfl)
    (pl : (backTo pos (starEach [] X.env)).any (·.1) = false := by rfl)
    (st2 : starEach [e] X.env = (false, eval e X.env) :: starEach [] X.env := by rfl)
    (pl2 : (backTo pos2 (starEach [] X.env)).any (·.1) = false := by rfl) :
    PE X (.Call (.Name "len" p) [.Call (.Name "set" p2) [e] [] pos2] [] pos) (tLenSet te) := by
  constructor
  intro pins s σ H Q I h
  refine wpAny_Call_Name_kw (ld_blt I hg hm PySem.boot_len ?_ (by decide) (by decide))
  refine PyProof.Rows.callWith_builtin1 ?_ st pl
  rw [st]
  refine Calls.spliced_cons ?_
  refine wpAny_Call_Name_kw (ld_blt I hg2 hm2 (by decide +kernel : bootBuiltins "set" = some (.type "set")) ?_ (by decide) (by decide))
  refine PyProof.Rows.callWith_type1 ?_ st2 pl2
  rw [st2]
  refine Calls.spliced_cons (thn (he.run pins s σ H _ I h) ?_)
  rintro u s1 ⟨x, H1, I1, r1, a, ns, rfl, ha, hn, q⟩
  refine Calls.spliced_nil ?_
  cases r1
  obtain ⟨its, rv, hl, _⟩ := I1.list (.inl (.inl ha))
  have hi : IntsAre its.toArray.toList ns := by
    rw [List.toList_toArray]
    exact Vals.ints rv
  have hsz : its.toArray.size = ns.length := by
    have q := rv.length
    rw [List.length_map] at q
    rw [List.size_toArray, ← q]
  refine call_set_list hr.hd hl.isList hi (by rw [hsz]; have : scanBound = 4096 := rfl; omega) fun h' tk hS hk => ?_
  refine Calls.spliced_nil ?_
  obtain ⟨o, es, ep, t, ho, hex, hd, _, _, hb, hf, hn'⟩ := hS
  have I2 : L2.Inv X pins σ H1 { s1 with heap := h', toks := tk } := I1.kept (t' := tk) fun b ob e => hk b ob (Heap.lt_size e) e
  refine call_len_set (s := { s1 with heap := h', toks := tk }) ho hex hd hf (by have : scanBound = 4096 := rfl; omega) ?_
  refine ⟨.int (nDis ns), H1, I2.kept (t' := tk + 1 + 1) fun b ob e => e, ⟨tk + 1, ?_⟩, q⟩
  rw [hn', hsz]
  rfl
end LB

open PySem PySem.Spec PyProof.Rows L2 LB
/-! the tactic: one step of a reading; many -/
local macro_rules | `(tactic| walk_at "w1_9") => `(tactic| first
  | with_reducible refine w_seq ?_ | with_reducible refine w_asg ?_ | with_reducible refine w_drop ?_ | with_reducible refine w_ret ?_ | with_reducible refine w_next ?_
  | with_reducible refine w_ifs ?_ | with_reducible refine w_forR1 ?_ | with_reducible refine w_forR2 ?_ | with_reducible refine w_forL ?_ | with_reducible refine w_forT ?_ | with_reducible refine w_name ?_ | with_reducible refine w_sub ?_ | with_reducible refine w_par ?_
  | with_reducible refine w_var (by with_unfolding_all rfl) ?_ | with_reducible refine w_c ?_ | with_reducible refine w_op ?_ | with_reducible refine w_un ?_
  | with_reducible refine w_test ?_ | with_reducible refine w_tb ?_ | with_reducible refine w_nil ?_ | with_reducible refine w_cons ?_ | with_reducible refine w_cb ?_ | with_reducible refine w_call ?_
  | with_reducible refine w_not ?_ | with_reducible refine w_and ?_ | with_reducible refine w_or ?_ | with_reducible refine w_andV ?_ | with_reducible refine w_orV ?_ | with_reducible refine w_notV ?_
  | with_reducible refine w_ife ?_ | with_reducible refine w_chain ?_ | with_reducible refine w_bm ?_ | with_reducible refine w_sl ?_ | with_reducible refine w_part ?_ | with_reducible refine w_nopart ?_
  | with_reducible refine w_exb ?_ | with_reducible refine w_exi ?_ | with_reducible refine w_ex2 ?_ | with_reducible refine w_ex3 ?_ | with_reducible refine w_lstrg ?_ | with_reducible refine w_rg2 ?_ | with_reducible refine w_rg1 ?_ | with_reducible refine w_exij ?_ | with_reducible refine w_tup ?_ | with_reducible refine w_lst ?_
  | with_reducible refine o_add ?_ | with_reducible refine o_sub ?_ | with_reducible refine o_neg ?_ | with_reducible refine o_lt ?_ | with_reducible refine o_le ?_ | with_reducible refine o_gt ?_ | with_reducible refine o_ge ?_
  | with_reducible refine o_ixL (by assumption) (by decide) (by with_unfolding_all rfl) ?_ | with_reducible refine o_ixT (by assumption) (by decide) (by with_unfolding_all rfl) ?_
  | with_reducible refine o_mod (by first | decide | omega) ?_ | with_reducible refine o_mul (by first | decide | omega) ?_ | with_reducible refine o_fdv (by first | decide | omega) (by first | decide | omega) ?_ | with_reducible refine o_setL (by assumption) (by decide) (by simp) ?_
  | with_reducible refine oo_addi ?_ | with_reducible refine oo_sub ?_ | with_reducible refine oo_neg ?_ | with_reducible refine w_rev ?_ | with_reducible refine w_m0 ?_
  | with_reducible refine w_par3 ?_ | with_reducible refine w_tyl (by assumption) ?_
  | with_reducible refine o_abs ?_ | with_reducible refine o_eqs (by with_unfolding_all rfl) ?_ | with_reducible refine o_nes (by with_unfolding_all rfl) ?_ | with_reducible refine o_max2 ?_ | with_reducible refine o_min2 ?_ | with_reducible refine o_isiX (by assumption) ?_ | with_reducible refine o_lenl (by assumption) ?_ | with_reducible refine o_lent (by assumption) ?_ | with_reducible refine o_int1b ?_)
local macro_rules | `(tactic| walk_at "ws_9") => `(tactic| repeat (first | walk_at "w1_9" | dsimp only [List.set_cons_zero, List.set_cons_succ]))
namespace LB
/-! ### logs -/
def wrOf : PyData → Option Int
  | .tuple [k, .int v, _, _] => if eqStr k "write" = true then some v else none
  | _ => none
def isLogD : PyData → Bool
  | .tuple ds => if 200 < ds.length then false else if ds.all isOpD = true then decide (V.int (nDis (ds.filterMap wrOf)) = V.int (ds.filterMap wrOf).length) else false
  | _ => false
theorem isOpD_inv {d : PyData} (h : isOpD d = true) : ∃ k i b e, d = .tuple [k, .int i, b, e] := by
  unfold isOpD at h
  split at h
  · rename_i k v b e
    simp only [Bool.and_eq_true] at h
    have h1 := h.1
    unfold fitsD at h1
    split at h1
    · obtain ⟨i, rfl⟩ := within_int h1
      exact ⟨_, _, _, _, rfl⟩
    · simp only [Bool.and_eq_true] at h1
      obtain ⟨i, rfl⟩ := within_int h1.2
      exact ⟨_, _, _, _, rfl⟩
  · cases h
def spIsLog : Sp := fun vs H Q _ => ∃ (x : V) (d : PyData) (S : Addr → Prop), vs = [x] ∧ DD S H x d ∧ ∀ H1, Keep NoS H H1 → Q (.bl (isLogD d)) H1
theorem spIsLog_arity {vs : List V} {H : Hp} {Q : VK} {E : XK} (h : spIsLog vs H Q E) : vs.length = 1 := by obtain ⟨_, _, _, rfl, _⟩ := h; rfl
abbrev spIsBook : Sp := spIsLog
theorem spIsBook_arity {vs : List V} {H : Hp} {Q : VK} {E : XK} (h : spIsBook vs H Q E) : vs.length = 1 := spIsLog_arity h
theorem take_snoc {α : Type} {l : List α} {i : Nat} {a : α} (h : l[i]? = some a) : l.take (i + 1) = l.take i ++ [a] := by
  rw [List.take_add_one, h]
  rfl
/-- all the items asked one by one -/
theorem lc_all {K : PySem.W.Frag} {call : Sp} (hc : ∀ (x : V) (d : PyData) (S : Addr → Prop) (H : Hp) (Q : VK), DD S H x d → (∀ H1, Keep NoS H H1 → Q (.bl (isOpD d)) H1) → call [x] H Q E0)
    {S : Addr → Prop} {H : Hp} {Q : VK} {a : Addr} {xs : List V} {ds : List PyData} {u : Option V} (ha : H a = some (.tup xs)) (hd : DDs S H xs ds) (hl : xs.length ≤ 200)
    (q : ∀ D H1, Keep NoS H H1 → H1 D = some (.lst ((ds.map isOpD).map V.bl)) → Q (.ref D) H1) :
    tLc (iSeq K (tVar 0)) (gName 1) tYes (tCall call [] E0 (tCons (tVar 1) tNil)) [1] [some (.ref a), none, u] H Q := by
  refine .inr ?_
  refine w_var (by with_unfolding_all rfl) ⟨a, rfl, ⟨xs, .inl (.inl ha)⟩, fun D hD => ?_⟩
  refine lc_tup (xs := xs) (fun i H' => Keep NoS H H' ∧ H' D = some (.lst (((ds.take i).map isOpD).map V.bl))) ⟨Keep.new hD, upd_same⟩ (fun i H' _ h => .inl (.inl (h.1.tup _ _ ha))) ?_ ?_
  · rintro i x H1 hi ⟨k1, hb⟩
    obtain ⟨d, edi, hdi⟩ := hd.get hi
    have hil : i < xs.length := by
      by_cases h : i < xs.length
      · exact h
      · rw [List.getElem?_eq_none (by omega)] at hi; cases hi
    refine ⟨rfl, ?_⟩
    refine w_yes ?_
    refine w_iteT rfl ?_
    walk_at "ws_9"
    refine hc x d S H1 _ (hdi.keep k1.of0) fun H2 k2 => ?_
    have hb2 := k2.all _ _ id hb
    refine ⟨_, hb2, Nat.lt_of_le_of_lt (by rw [List.length_map, List.length_map, List.length_take]; omega : _ ≤ 1000) (by decide), (k1.trans k2).put0 hD hb2, ?_⟩
    rw [take_snoc edi, List.map_append, List.map_append]
    exact upd_same
  · rintro H1 ⟨k1, hb⟩
    rw [hd.length, List.take_length] at hb
    exact q D H1 k1 hb
/-- the values that are written -/
theorem lc_wr {K : PySem.W.Frag} {S : Addr → Prop} {H : Hp} {Q : VK} {a : Addr} {xs : List V} {ds : List PyData} {u : Option V} (ha : H a = some (.tup xs)) (hd : DDs S H xs ds) (hl : xs.length ≤ 200) (ho : ∀ d ∈ ds, isOpD d = true)
    (q : ∀ D H1, Keep NoS H H1 → H1 D = some (.lst ((ds.filterMap wrOf).map V.int)) → Q (.ref D) H1) :
    tLc (iSeq K (tVar 0)) (gName 1) (tTest (tOp (rEqA K) (tOp (rIx K) (tVar 1) (tC (V.int 0))) (tC (V.str "write")))) (tOp (rIx K) (tVar 1) (tC (V.int 1))) [1] [some (.ref a), none, u] H Q := by
  refine .inr ?_
  refine w_var (by with_unfolding_all rfl) ⟨a, rfl, ⟨xs, .inl (.inl ha)⟩, fun D hD => ?_⟩
  refine lc_tup (xs := xs) (fun i H' => Keep NoS H H' ∧ H' D = some (.lst (((ds.take i).filterMap wrOf).map V.int))) ⟨Keep.new hD, upd_same⟩ (fun i H' _ h => .inl (.inl (h.1.tup _ _ ha))) ?_ ?_
  · rintro i x H1 hi ⟨k1, hb⟩
    obtain ⟨d, edi, hdi⟩ := hd.get hi
    have hil : i < xs.length := by
      by_cases h : i < xs.length
      · exact h
      · rw [List.getElem?_eq_none (by omega)] at hi; cases hi
    obtain ⟨k, z, b, e, rfl⟩ := isOpD_inv (ho d (List.mem_of_getElem? edi))
    obtain ⟨t, ys, rfl, ht, hy⟩ := (hdi.keep (S := S) k1.of0).tupX
    obtain ⟨x1, x2, x3, x4, rfl, d1, d2, d3, d4⟩ := hy.four
    have := d2.intX
    subst this
    refine ⟨rfl, ?_⟩
    walk_at "ws_9"
    refine o_eqx d1 ?_
    walk_at "ws_9"
    refine w_iteb (fun c1 => ?_) (fun c1 => ?_)
    · walk_at "ws_9"
      refine ⟨_, hb, Nat.lt_of_le_of_lt (by rw [List.length_map]; exact Nat.le_trans (List.length_filterMap_le _ _) (by rw [List.length_take]; omega) : _ ≤ 1000) (by decide), k1.put0 hD hb, ?_⟩
      rw [take_snoc edi, List.filterMap_append, List.map_append]
      simp only [List.filterMap_cons, List.filterMap_nil, wrOf, c1, if_true]
      exact upd_same
    · refine ⟨k1, ?_⟩
      rw [take_snoc edi, List.filterMap_append, List.map_append]
      simp only [List.filterMap_cons, List.filterMap_nil, wrOf, c1, Bool.false_eq_true, if_false, List.map_nil, List.append_nil]
      exact hb
  · rintro H1 ⟨k1, hb⟩
    rw [hd.length, List.take_length] at hb
    exact q D H1 k1 hb
theorem w_lenset {te : TE} {σ : LB.St} {H : Hp} {Q : VK} (h : te σ H fun x H1 => ∃ a ns, x = .ref a ∧ H1 a = some (.lst (ns.map V.int)) ∧ ns.length ≤ 4000 ∧ Q (.int (nDis ns)) H1) : tLenSet te σ H Q := h

def t_is_log (K : PySem.W.Frag) : TS :=
  (tSeq (tIfS (tOr (tNot (tB (tCB (rIsi K) (tCons (tVar 0) (tCons (tC (V.ty "tuple")) tNil))))) (tTest (tOp rGtI (tCB (rLen K) (tCons (tVar 0) tNil)) (tC (V.int 200)))))
    (tRet (tC (V.bl false))) tNext)
    (tSeq (tIfS (tNot (tB (tCB (rAll K) (tCons (tLc (iSeq K (tVar 0)) (gName 1) tYes (tCall spIsOp [] E0 (tCons (tVar 1) tNil)) [1]) tNil))))
    (tRet (tC (V.bl false))) tNext)
    (tSeq (tAsg (tLc (iSeq K (tVar 0)) (gName 1) (tTest (tOp (rEqA K) (tOp (rIx K) (tVar 1) (tC (V.int 0))) (tC (V.str "write")))) (tOp (rIx K) (tVar 1) (tC (V.int 1))) [1]) (gName 2))
    (tRet (tOp (rEqA K) (tLenSet (tVar 2)) (tCB (rLen K) (tCons (tVar 2) tNil)))))))

def t__law_is_book (K : PySem.W.Frag) : TS :=
  (tSeq (tIfS (tOr (tNot (tB (tCB (rIsi K) (tCons (tVar 0) (tCons (tC (V.ty "tuple")) tNil))))) (tOr (tTest (tOp rGtI (tCB (rLen K) (tCons (tVar 0) tNil)) (tC (V.int 200)))) (tNot (tB (tCB (rAll K) (tCons (tLc (iSeq K (tVar 0)) (gName 1) tYes (tCall spIsCall [] E0 (tCons (tVar 1) tNil)) [1]) tNil))))))
    (tRet (tC (V.bl false))) tNext)
    (tSeq (tAsg (tLc (iSeq K (tVar 0)) (gName 1) (tTest (tOp (rEqA K) (tOp (rIx K) (tVar 1) (tC (V.int 0))) (tC (V.str "write")))) (tOp (rIx K) (tVar 1) (tC (V.int 1))) [1]) (gName 2))
    (tRet (tOp (rEqA K) (tLenSet (tVar 2)) (tCB (rLen K) (tCons (tVar 2) tNil))))))

theorem pure_is_log {K : PySem.W.Frag} {vs : List V} {H : Hp} {Q : VK} {E : XK} (h : spIsLog vs H Q E) : t_is_log K { nx := fun _ H' => Q .non H', rt := Q } (start ["value", "item", "written"] vs) H := by
  obtain ⟨x, d, S, rfl, hd, q⟩ := h
  show t_is_log K _ [some x, none, none] H
  unfold t_is_log
  have q0 := q H (Keep.refl _ _)
  walk_at "ws_9"
  rw [isT_tuple]
  cases d with
  | tuple ds =>
    refine w_iteF rfl ?_
    obtain ⟨a, xs, rfl, ha, hx⟩ := hd.tupX
    have hl := hx.length
    walk_at "ws_9"
    by_cases h2 : 200 < ds.length
    · refine w_iteT (by rw [hl]; simp; omega) ?_
      walk_at "ws_9"
      simp only [isLogD, h2, if_true] at q0
      exact q0
    · refine w_iteF (by rw [hl]; simp; omega) ?_
      walk_at "ws_9"
      refine lc_all (call := spIsOp) (fun x d S H Q hd q => ⟨x, d, S, rfl, hd, q H (Keep.refl _ _)⟩) ha hx (by omega) fun D H1 k1 hb => ?_
      refine ⟨D, ds.map isOpD, rfl, .inl (.inl hb), ?_⟩
      rw [List.all_map]
      walk_at "ws_9"
      refine w_iteb (fun c1 => ?_) (fun c1 => ?_)
      · walk_at "ws_9"
        have c1 : ds.all isOpD = false := by simpa using c1
        have q1 := q H1 k1
        simp only [isLogD, h2, if_false, c1, Bool.false_eq_true] at q1
        exact q1
      · have c1 : ds.all isOpD = true := by simpa using c1
        walk_at "ws_9"
        have ha1 := k1.tup _ _ ha
        refine lc_wr ha1 (hx.keep (S := S) k1.of0) (by omega) (fun d hd => (List.all_eq_true.mp c1) d hd) fun D2 H2 k2 hb2 => ?_
        walk_at "ws_9"
        refine w_lenset ?_
        walk_at "ws_9"
        refine ⟨D2, _, rfl, hb2, Nat.le_trans (List.length_filterMap_le _ _) (by omega), ?_⟩
        walk_at "ws_9"
        rw [List.length_map]
        have q2 := q H2 (k1.trans k2)
        simp only [isLogD, h2, if_false, c1, if_true] at q2
        exact q2
  | _ => exact q0

theorem pure__law_is_book {K : PySem.W.Frag} {vs : List V} {H : Hp} {Q : VK} {E : XK} (h : spIsBook vs H Q E) : t__law_is_book K { nx := fun _ H' => Q .non H', rt := Q } (start ["value", "item", "written"] vs) H := by
  obtain ⟨x, d, S, rfl, hd, q⟩ := h
  show t__law_is_book K _ [some x, none, none] H
  unfold t__law_is_book
  have q0 := q H (Keep.refl _ _)
  walk_at "ws_9"
  rw [isT_tuple]
  cases d with
  | tuple ds =>
    refine w_iteF rfl ?_
    obtain ⟨a, xs, rfl, ha, hx⟩ := hd.tupX
    have hl := hx.length
    walk_at "ws_9"
    by_cases h2 : 200 < ds.length
    · refine w_iteT (by rw [hl]; simp; omega) ?_
      walk_at "ws_9"
      simp only [isLogD, h2, if_true] at q0
      exact q0
    · refine w_iteF (by rw [hl]; simp; omega) ?_
      walk_at "ws_9"
      refine lc_all (call := spIsCall) (fun x d S H Q hd q => ⟨x, d, S, rfl, hd, q⟩) ha hx (by omega) fun D H1 k1 hb => ?_
      refine ⟨D, ds.map isOpD, rfl, .inl (.inl hb), ?_⟩
      rw [List.all_map]
      walk_at "ws_9"
      refine w_iteb (fun c1 => ?_) (fun c1 => ?_)
      · walk_at "ws_9"
        have c1 : ds.all isOpD = false := by simpa using c1
        have q1 := q H1 k1
        simp only [isLogD, h2, if_false, c1, Bool.false_eq_true] at q1
        exact q1
      · have c1 : ds.all isOpD = true := by simpa using c1
        walk_at "ws_9"
        have ha1 := k1.tup _ _ ha
        refine lc_wr ha1 (hx.keep (S := S) k1.of0) (by omega) (fun d hd => (List.all_eq_true.mp c1) d hd) fun D2 H2 k2 hb2 => ?_
        walk_at "ws_9"
        refine w_lenset ?_
        walk_at "ws_9"
        refine ⟨D2, _, rfl, hb2, Nat.le_trans (List.length_filterMap_le _ _) (by omega), ?_⟩
        walk_at "ws_9"
        rw [List.length_map]
        have q2 := q H2 (k1.trans k2)
        simp only [isLogD, h2, if_false, c1, if_true] at q2
        exact q2
  | _ => exact q0

end LB

open PySem PySem.Spec PyProof.Rows L2 LB
/-! the tactic: one step of a reading; many -/
local macro_rules | `(tactic| walk_at "w1_10") => `(tactic| first
  | with_reducible refine w_seq ?_ | with_reducible refine w_asg ?_ | with_reducible refine w_drop ?_ | with_reducible refine w_ret ?_ | with_reducible refine w_next ?_
  | with_reducible refine w_ifs ?_ | with_reducible refine w_forR1 ?_ | with_reducible refine w_forR2 ?_ | with_reducible refine w_forL ?_ | with_reducible refine w_forT ?_ | with_reducible refine w_name ?_ | with_reducible refine w_sub ?_ | with_reducible refine w_par ?_
  | with_reducible refine w_var (by with_unfolding_all rfl) ?_ | with_reducible refine w_c ?_ | with_reducible refine w_op ?_ | with_reducible refine w_un ?_
  | with_reducible refine w_test ?_ | with_reducible refine w_tb ?_ | with_reducible refine w_nil ?_ | with_reducible refine w_cons ?_ | with_reducible refine w_cb ?_ | with_reducible refine w_call ?_
  | with_reducible refine w_not ?_ | with_reducible refine w_and ?_ | with_reducible refine w_or ?_ | with_reducible refine w_andV ?_ | with_reducible refine w_orV ?_ | with_reducible refine w_notV ?_
  | with_reducible refine w_ife ?_ | with_reducible refine w_chain ?_ | with_reducible refine w_bm ?_ | with_reducible refine w_sl ?_ | with_reducible refine w_part ?_ | with_reducible refine w_nopart ?_
  | with_reducible refine w_exb ?_ | with_reducible refine w_exi ?_ | with_reducible refine w_ex2 ?_ | with_reducible refine w_ex3 ?_ | with_reducible refine w_lstrg ?_ | with_reducible refine w_rg2 ?_ | with_reducible refine w_rg1 ?_ | with_reducible refine w_exij ?_ | with_reducible refine w_tup ?_ | with_reducible refine w_lst ?_
  | with_reducible refine o_add ?_ | with_reducible refine o_sub ?_ | with_reducible refine o_neg ?_ | with_reducible refine o_lt ?_ | with_reducible refine o_le ?_ | with_reducible refine o_gt ?_ | with_reducible refine o_ge ?_
  | with_reducible refine o_ixL (by assumption) (by decide) (by with_unfolding_all rfl) ?_ | with_reducible refine o_ixT (by assumption) (by decide) (by with_unfolding_all rfl) ?_
  | with_reducible refine o_mod (by first | decide | omega) ?_ | with_reducible refine o_mul (by first | decide | omega) ?_ | with_reducible refine o_fdv (by first | decide | omega) (by first | decide | omega) ?_ | with_reducible refine o_setL (by assumption) (by decide) (by simp) ?_
  | with_reducible refine oo_addi ?_ | with_reducible refine oo_sub ?_ | with_reducible refine oo_neg ?_ | with_reducible refine w_rev ?_ | with_reducible refine w_m0 ?_
  | with_reducible refine w_par3 ?_ | with_reducible refine w_tyl (by assumption) ?_
  | with_reducible refine o_abs ?_ | with_reducible refine o_eqs (by with_unfolding_all rfl) ?_ | with_reducible refine o_nes (by with_unfolding_all rfl) ?_ | with_reducible refine o_max2 ?_ | with_reducible refine o_min2 ?_ | with_reducible refine o_isiX (by assumption) ?_ | with_reducible refine o_lenl (by assumption) ?_ | with_reducible refine o_lent (by assumption) ?_ | with_reducible refine o_int1b ?_)
local macro_rules | `(tactic| walk_at "ws_10") => `(tactic| repeat (first | walk_at "w1_10" | dsimp only [List.set_cons_zero, List.set_cons_succ]))
namespace LB
/-! ### steps -/
section
variable {K : PySem.W.Frag} {D : Ends} {σ : LB.St} {H : Hp} {Q : VK} {te to ta : TE}
theorem w_m1 {r : V → List V → Hp → VK → Prop} (h : to σ H fun x H1 => (∃ a, x = .str a) ∧ te σ H1 fun y H2 => r x [y] H2 Q) : tM1 r to te σ H Q := h
theorem w_tys {x : Str} {P : Prop} (h : P) : (∃ a, V.str x = .str a) ∧ P := ⟨⟨_, rfl⟩, h⟩
theorem o_join {a : Str} {p : Addr} {ys : List Str} (e : H p = some (.lst (ys.map V.str))) (z : (ys.map (·.length)).sum + ys.length * a.length ≤ 16777216) (h : Q (.str (Txt.join a ys)) H) : rJoin K (.str a) [.ref p] H Q :=
  ⟨a, p, ys, rfl, rfl, .inl (.inl (.inl e)), z, h⟩
theorem o_split {a b : Str} (e : (b.length == 0) = false) (z : a.length + 2 ≤ sizeLine) (h : ∀ p H1, New H H1 p (.lst ((Txt.split a b).map V.str)) → Q (.ref p) H1) : rSplit (.str a) [.str b] H Q :=
  ⟨a, b, rfl, rfl, e, z, fun p hp => h p _ (.mk' hp)⟩
theorem o_rmpre {a b : Str} (z : a.length ≤ sizeLine) (h : Q (.str (Txt.removeprefix a b)) H) : rRmPre (.str a) [.str b] H Q := ⟨a, b, rfl, rfl, z, h⟩
theorem o_strs {a : Str} (h : Q (.str a) H) : rStrS [.str a] H Q := .inr ⟨a, rfl, h⟩
theorem o_stri {i : Int} (e : i.natAbs.log2 < 1920) (h : Q (.str (toString i)) H) : rStrS [.int i] H Q := .inl ⟨i, rfl, e, h⟩
theorem w_lcL {g : TG} {tt : TT} {vs : List Nat} {a : Addr} {s : Nat} {xs : List V} (es : σ[s]? = some (some (.ref a))) (e : H a = some (.lst xs)) (h : tLc (fun _ _ R => R (Itl K a) H) g tt te vs σ H Q) : tLc (iSeq K (tVar s)) g tt te vs σ H Q :=
  .inl (w_var es ⟨a, rfl, ⟨xs, .inl (.inl e)⟩, h⟩)
theorem w_lcTT {g : TG} {tt : TT} {vs : List Nat} {a : Addr} {s : Nat} {xs : List V} (es : σ[s]? = some (some (.ref a))) (e : H a = some (.tup xs)) (h : tLc (fun _ _ R => R (Itt K a) H) g tt te vs σ H Q) : tLc (iSeq K (tVar s)) g tt te vs σ H Q :=
  .inr (w_var es ⟨a, rfl, ⟨xs, .inl (.inl e)⟩, h⟩)
end
/-- a list of what is found for each item of a list or a tuple -/
theorem lc_dt {K : PySem.W.Frag} {σ : LB.St} {H : Hp} {Q : VK} {a : Addr} {xs : List V} {i : Nat} {te : TE} (f : Nat → PyData) {J : It} (hJ : (J = Itl K a ∧ H a = some (.lst xs)) ∨ (J = Itt K a ∧ H a = some (.tup xs))) (few : xs.length ≤ 1000000)
    (he : ∀ (n : Nat) (x : V) (H2 : Hp) (Q2 : VK), xs[n]? = some x → Keep NoS H H2 → (∀ y H3, Keep NoS H2 H3 → DD All H3 y (f n) → Q2 y H3) → te ((σ.set i none).set i (some x)) H2 Q2)
    (q : ∀ (D : Addr) (H1 : Hp) (ys : List V), Keep NoS H H1 → H D = none → H1 D = some (.lst ys) → DDs All H1 ys ((List.range xs.length).map f) → Q (.ref D) H1) : tLc (fun _ _ R => R J H) (gName i) tYes te [i] σ H Q := by
  intro D hD
  have key : ∀ (n : Nat) (x : V) (H1 : Hp), xs[n]? = some x → (Keep NoS H H1 ∧ ∃ ys, H1 D = some (.lst ys) ∧ DDs All H1 ys ((List.range n).map f)) →
      gName i x (wipe σ [i]) H1 fun σ2 H2 => wipe σ2 [i] = wipe σ [i] ∧ tYes σ2 H2 fun b H3 =>
        if b = true then te σ2 H3 fun y H4 => ∃ acc, H4 D = some (.lst acc) ∧ acc.length < sizeLine ∧ (Keep NoS H (upd H4 D (.lst (acc ++ [y]))) ∧ ∃ ys, upd H4 D (.lst (acc ++ [y])) D = some (.lst ys) ∧ DDs All (upd H4 D (.lst (acc ++ [y]))) ys ((List.range (n + 1)).map f)) else (Keep NoS H H3 ∧ ∃ ys, H3 D = some (.lst ys) ∧ DDs All H3 ys ((List.range (n + 1)).map f)) := by
    rintro n x H1 hn ⟨k1, ys, hb, hd⟩
    have ln : n < xs.length := by
      by_cases z : n < xs.length
      · exact z
      · rw [List.getElem?_eq_none (by omega)] at hn; cases hn
    refine ⟨by show ((σ.set i none).set i _).set i none = σ.set i none; rw [List.set_set, List.set_set], ?_⟩
    simp only [tYes, if_true]
    refine he n x H1 _ hn k1 fun y H3 k3 dy => ?_
    have hb3 := k3.all _ _ id hb
    have hl := hd.length
    rw [List.length_map, List.length_range] at hl
    have kA : Keep All H3 (upd H3 D (.lst (ys ++ [y]))) := Keep.put (S := All) trivial hb3
    refine ⟨ys, hb3, by rw [hl, sizeLine_eq]; omega, (k1.trans k3).put0 hD hb3, _, upd_same, ?_⟩
    rw [List.range_succ, List.map_append]
    exact (hd.keep ((k3.mono fun _ h => h.elim).trans kA)).snoc (dy.keep kA)
  have fin : ∀ H1, (Keep NoS H H1 ∧ ∃ ys, H1 D = some (.lst ys) ∧ DDs All H1 ys ((List.range xs.length).map f)) → Q (.ref D) H1 := fun H1 ⟨k1, ys, hb, hd⟩ => q D H1 ys k1 hD hb hd
  have start0 : Keep NoS H (upd H D (.lst [])) ∧ ∃ ys, upd H D (.lst []) D = some (.lst ys) ∧ DDs All (upd H D (.lst [])) ys ((List.range 0).map f) := ⟨Keep.new hD, [], upd_same, .nil⟩
  rcases hJ with ⟨rfl, ha⟩ | ⟨rfl, ha⟩
  · exact lc_list (xs := xs) (fun n H' => Keep NoS H H' ∧ ∃ ys, H' D = some (.lst ys) ∧ DDs All H' ys ((List.range n).map f)) start0 (fun n H' _ h => .inl (.inl (h.1.all _ _ id ha))) key fin
  · exact lc_tup (xs := xs) (fun n H' => Keep NoS H H' ∧ ∃ ys, H' D = some (.lst ys) ∧ DDs All H' ys ((List.range n).map f)) start0 (fun n H' _ h => .inl (.inl (h.1.tup _ _ ha))) key fin
theorem DDs.strs {S : Addr → Prop} {H : Hp} : ∀ {zs : List Str} {ys : List V}, DDs S H ys (zs.map PyData.str) → ys = zs.map V.str
  | [], _, .nil => rfl
  | z :: zs, _, .cons h r => by
    rw [DDs.strs (zs := zs) r, h.strX]; rfl
end LB

namespace LB
open PySem PySem.Spec PyProof.Rows L2
/-! ### name = {..: .. for ..} on one line, the name a local -/
section
variable {X : Cx} {i : Nat} {y : Str} {py : Pos} {kx vx tg iter : Expr} {ifs : List Expr} {scope : Scope} {own : List (Str × Nat)} {pos spos : Pos} {wi : TI} {g : TG} {tt : TT} {tk tv : TE}
theorem ps_setDc (hc : X.calm = true) (hN : X.N.Nodup) (hy : X.N[i]? = some y) (loc : X.env.scope.names.lookup y = some .local) (sw : swapsWith (.DictComp kx vx [⟨tg, iter, ifs, 0⟩] scope pos) (some (.Name y py)) spos.line X.env = pure true)
    (hi : PI X tg iter wi) (ok : BlkOk X.N X.env.scope scope own) (hg : ∀ (s : Shared) (H : Hp) (C : Addr) (cl : List (Str × Addr)) (fp : List Addr), PG (X.blk s H scope (compEnvC scope cl C X.env) fp) tg g)
    (ht : ∀ (s : Shared) (H : Hp) (C : Addr) (cl : List (Str × Addr)) (fp : List Addr), PTs (X.blk s H scope (compEnvC scope cl C X.env) fp) ifs tt) (hk : ∀ (s : Shared) (H : Hp) (C : Addr) (cl : List (Str × Addr)) (fp : List Addr), PE (X.blk s H scope (compEnvC scope cl C X.env) fp) kx tk)
    (hv : ∀ (s : Shared) (H : Hp) (C : Addr) (cl : List (Str × Addr)) (fp : List Addr), PE (X.blk s H scope (compEnvC scope cl C X.env) fp) vx tv) (hs : ∀ x, foldedSetIterable iter X.env x = pure x := by intro _; rfl) :
    PS X (.Assign [.Name y py] (.DictComp kx vx [⟨tg, iter, ifs, 0⟩] scope pos) spos) (tAsg (tDc wi g tt tk tv (own.map (·.2))) (gName i)) := by
  constructor
  intro pins s σ H D I h
  have h : tDc wi g tt tk tv (own.map (·.2)) σ H (fun x H1 => gName i x σ H1 D.nx) := h
  rw [exec_Assign_Name_used _ _ _ _ sw]
  refine wpAny_bind (wpAny_standAt (wpAny_bind (show wpAny _ X.A (do let _ ← comprehension (.DictComp kx vx [⟨tg, iter, ifs, 0⟩] scope pos) scope X.env (firstIterPos [⟨tg, iter, ifs, 0⟩] pos) newDict false (eval iter X.env) (some (assign (.Name y py) X.env))) _ _ s from ?_)))
  refine wpAny_bind (thn (dc_core (Qf := fun _ s' => SP X pins D .next s') hc hN I hi ok hg ht hk hv hs h ?_) fun _ s' hq => wpAny_pure (wpAny_pure hq))
  rintro L C s' m H' I' q hn ⟨f0, f1, f2, f3, f4, f5⟩
  refine (show wpAny _ _ (assign (.Name y py) X.env (.ref L)) _ _ _ from wpAny_assign_Name (store_ok2 (v := V.ref L) I' hN hy (.inl loc) rfl ?_ (.inr loc)))
  rintro s2 I2 ⟨a, sb, ha⟩
  have ne : C ≠ a := by
    rcases ha with rfl | ha
    · exact f1
    · exact fun e => f4 y a ha e.symm
  exact ⟨m, hn.sameBut sb ne, fun h3 sb3 => ⟨_, H', I2.turned (t' := s2.toks) (fun b o nb e => (sb3.2 b nb).trans e) f0 f1 f3 f4 f5, q⟩⟩
end
theorem sw_trueD {kx vx : Expr} {gs : List Comprehension} {scope : Scope} {pos py : Pos} {y : Str} {l : Nat} {env : Env} (hk : env.scope.kind = .function) (hy : env.scope.names.lookup y = some .local) (hl : (py.line == pos.line) = true)
    (ha : (scope.names.any fun (n, k) => n == y && (k == .local || k == .cell)) = false) : swapsWith (.DictComp kx vx gs scope pos) (some (.Name y py)) l env = pure true := by
  have e1 : env.kindOf y = some .local := hy
  have e2 : env.blockKind = .function := by
    unfold Env.blockKind
    rw [hk]
    rfl
  unfold swapsWith
  simp only [e2, e1, ha, Expr.pos, hl]
  rfl
end LB

open PySem PySem.Spec PyProof.Rows L2 LB
/-! the tactic: one step of a reading; many -/
local macro_rules | `(tactic| walk_at "w1_11") => `(tactic| first
  | with_reducible refine w_seq ?_ | with_reducible refine w_asg ?_ | with_reducible refine w_drop ?_ | with_reducible refine w_ret ?_ | with_reducible refine w_next ?_
  | with_reducible refine w_ifs ?_ | with_reducible refine w_forR1 ?_ | with_reducible refine w_forR2 ?_ | with_reducible refine w_forL ?_ | with_reducible refine w_forT ?_ | with_reducible refine w_name ?_ | with_reducible refine w_sub ?_ | with_reducible refine w_par ?_
  | with_reducible refine w_var (by with_unfolding_all rfl) ?_ | with_reducible refine w_c ?_ | with_reducible refine w_op ?_ | with_reducible refine w_un ?_
  | with_reducible refine w_test ?_ | with_reducible refine w_tb ?_ | with_reducible refine w_nil ?_ | with_reducible refine w_cons ?_ | with_reducible refine w_cb ?_ | with_reducible refine w_call ?_
  | with_reducible refine w_not ?_ | with_reducible refine w_and ?_ | with_reducible refine w_or ?_ | with_reducible refine w_andV ?_ | with_reducible refine w_orV ?_ | with_reducible refine w_notV ?_
  | with_reducible refine w_ife ?_ | with_reducible refine w_chain ?_ | with_reducible refine w_bm ?_ | with_reducible refine w_sl ?_ | with_reducible refine w_part ?_ | with_reducible refine w_nopart ?_
  | with_reducible refine w_exb ?_ | with_reducible refine w_exi ?_ | with_reducible refine w_ex2 ?_ | with_reducible refine w_ex3 ?_ | with_reducible refine w_lstrg ?_ | with_reducible refine w_rg2 ?_ | with_reducible refine w_rg1 ?_ | with_reducible refine w_exij ?_ | with_reducible refine w_tup ?_ | with_reducible refine w_lst ?_
  | with_reducible refine o_add ?_ | with_reducible refine o_sub ?_ | with_reducible refine o_neg ?_ | with_reducible refine o_lt ?_ | with_reducible refine o_le ?_ | with_reducible refine o_gt ?_ | with_reducible refine o_ge ?_
  | with_reducible refine o_ixL (by assumption) (by decide) (by with_unfolding_all rfl) ?_ | with_reducible refine o_ixT (by assumption) (by decide) (by with_unfolding_all rfl) ?_
  | with_reducible refine o_mod (by first | decide | omega) ?_ | with_reducible refine o_mul (by first | decide | omega) ?_ | with_reducible refine o_fdv (by first | decide | omega) (by first | decide | omega) ?_ | with_reducible refine o_setL (by assumption) (by decide) (by simp) ?_
  | with_reducible refine oo_addi ?_ | with_reducible refine oo_sub ?_ | with_reducible refine oo_neg ?_ | with_reducible refine w_rev ?_ | with_reducible refine w_m0 ?_
  | with_reducible refine w_par3 ?_ | with_reducible refine w_tyl (by assumption) ?_
  | with_reducible refine o_abs ?_ | with_reducible refine o_eqs (by with_unfolding_all rfl) ?_ | with_reducible refine o_nes (by with_unfolding_all rfl) ?_ | with_reducible refine o_max2 ?_ | with_reducible refine o_min2 ?_ | with_reducible refine o_isiX (by assumption) ?_ | with_reducible refine o_lenl (by assumption) ?_ | with_reducible refine o_lent (by assumption) ?_ | with_reducible refine o_int1b ?_)
local macro_rules | `(tactic| walk_at "ws_11") => `(tactic| repeat (first | walk_at "w1_11" | dsimp only [List.set_cons_zero, List.set_cons_succ]))
namespace LB
/-! ### the promises of values.py and of surely_before, where nothing is raised -/
def spValues : Sp := fun vs H Q _ => ∃ (t : Addr) (ops : List Op), vs = [.ref t] ∧ LogAt H t ops ∧ ops.length ≤ 200 ∧ ∀ (p : Addr) (H' : Hp), Keep NoS H H' → H p = none → H' p = some (.tup ((vals ops).map V.int)) → Q (.ref p) H'
theorem spValues_arity {vs : List V} {H : Hp} {Q : VK} {E : XK} (h : spValues vs H Q E) : vs.length = 1 := by obtain ⟨_, _, rfl, _⟩ := h; rfl
def spDemand : Sp := fun vs H Q _ => ∃ (t : Addr) (ops : List Op) (v : Int), vs = [.ref t, .int v] ∧ LogAt H t ops ∧ ops.length ≤ 200 ∧ v ∈ vals ops ∧ ∀ H', Keep NoS H H' → Q .non H'
theorem spDemand_arity {vs : List V} {H : Hp} {Q : VK} {E : XK} (h : spDemand vs H Q E) : vs.length = 2 := by obtain ⟨_, _, _, rfl, _⟩ := h; rfl
def spEnded : Sp := fun vs H Q _ => ∃ (t : Addr) (ops : List Op), vs = [.ref t] ∧ LogAt H t ops ∧ ops.length ≤ 200 ∧ ∀ (p : Addr) (H' : Hp), Keep NoS H H' → H p = none → H' p = some (.dK (mkD (keysN ops) (bstF kE ops ops.length))) → Q (.ref p) H'
theorem spEnded_arity {vs : List V} {H : Hp} {Q : VK} {E : XK} (h : spEnded vs H Q E) : vs.length = 1 := by obtain ⟨_, _, rfl, _⟩ := h; rfl
def spBegun : Sp := fun vs H Q _ => ∃ (t : Addr) (ops : List Op), vs = [.ref t] ∧ LogAt H t ops ∧ ops.length ≤ 200 ∧ ∀ (p : Addr) (H' : Hp), Keep NoS H H' → H p = none → H' p = some (.dK (mkD (keysN ops) (bstF kB ops ops.length))) → Q (.ref p) H'
theorem spBegun_arity {vs : List V} {H : Hp} {Q : VK} {E : XK} (h : spBegun vs H Q E) : vs.length = 1 := by obtain ⟨_, _, rfl, _⟩ := h; rfl
/-- the span of a value: its first end, None for 0, its last begin -/
def spanF (ops : List Op) (v : Int) : V := if v = 0 then .non else .int (firstE ops v)
abbrev spanT (ops : List Op) (v : Int) : HO := .tup [spanF ops v, .int (lastB ops v)]
def SpansAt (H : Hp) (d : Addr) (ops : List Op) : Prop := ∃ f : Int → V, Rd H d (.dK (mkD (keysN ops) f)) ∧ ∀ v ∈ keysN ops, ∃ t, f v = .ref t ∧ H t = some (spanT ops v)
theorem SpansAt.keep {S : Addr → Prop} {H H' : Hp} {d : Addr} {ops : List Op} (h : SpansAt H d ops) (k : Keep S H H') (n : ¬ S d) : SpansAt H' d ops := by
  obtain ⟨f, h1, h2⟩ := h
  refine ⟨f, ?_, fun v hv => ?_⟩
  · rcases h1 with h1 | ⟨o, h1⟩
    · exact .inl (k.all _ _ n h1)
    · exact .inr ⟨o, k.all _ _ n h1⟩
  · obtain ⟨t, e1, e2⟩ := h2 v hv
    exact ⟨t, e1, k.tup _ _ e2⟩
theorem SpansAt.get {H : Hp} {d : Addr} {ops : List Op} {v : Int} (h : SpansAt H d ops) (hv : v ∈ vals ops) : ∃ t, DGet H d (.int v) (some (.ref t)) ∧ H t = some (spanT ops v) := by
  obtain ⟨f, h1, h2⟩ := h
  have hk := keysN_vals.mpr hv
  obtain ⟨t, e1, e2⟩ := h2 v hk
  exact ⟨t, .inl ⟨_, .inl v, h1, rfl, by rw [mkD_val, if_pos hk, e1]⟩, e2⟩
def spSpans : Sp := fun vs H Q _ => ∃ (t : Addr) (ops : List Op), vs = [.ref t] ∧ LogAt H t ops ∧ ops.length ≤ 200 ∧ ∀ (p : Addr) (H' : Hp), Keep NoS H H' → H p = none → SpansAt H' p ops → Q (.ref p) H'
theorem spSpans_arity {vs : List V} {H : Hp} {Q : VK} {E : XK} (h : spSpans vs H Q E) : vs.length = 1 := by obtain ⟨_, _, rfl, _⟩ := h; rfl
def spOpsOf : Sp := fun vs H Q _ => ∃ (t : Addr) (ops : List Op) (v : Int), vs = [.ref t, .int v] ∧ LogAt H t ops ∧ ops.length ≤ 200 ∧ v ∈ vals ops ∧ ∀ (p : Addr) (H' : Hp), Keep NoS H H' → H p = none → H' p = some (.tup ((idxOf ops v).map fun n => V.int (n : Nat))) → Q (.ref p) H'
theorem spOpsOf_arity {vs : List V} {H : Hp} {Q : VK} {E : XK} (h : spOpsOf vs H Q E) : vs.length = 2 := by obtain ⟨_, _, _, rfl, _⟩ := h; rfl
def optN : Option Nat → V
  | some n => .int (n : Nat)
  | none => .non
def spWriteOf : Sp := fun vs H Q _ => ∃ (t : Addr) (ops : List Op) (v : Int), vs = [.ref t, .int v] ∧ LogAt H t ops ∧ ops.length ≤ 200 ∧ v ∈ vals ops ∧ ∀ H', Keep NoS H H' → Q (optN (wrIx ops v)) H'
theorem spWriteOf_arity {vs : List V} {H : Hp} {Q : VK} {E : XK} (h : spWriteOf vs H Q E) : vs.length = 2 := by obtain ⟨_, _, _, rfl, _⟩ := h; rfl
def spFirstEnd : Sp := fun vs H Q _ => ∃ (t : Addr) (ops : List Op) (v : Int), vs = [.ref t, .int v] ∧ LogAt H t ops ∧ ops.length ≤ 200 ∧ v ∈ vals ops ∧ ∀ H', Keep NoS H H' → Q (spanF ops v) H'
theorem spFirstEnd_arity {vs : List V} {H : Hp} {Q : VK} {E : XK} (h : spFirstEnd vs H Q E) : vs.length = 2 := by obtain ⟨_, _, _, rfl, _⟩ := h; rfl
def spLastBegin : Sp := fun vs H Q _ => ∃ (t : Addr) (ops : List Op) (v : Int), vs = [.ref t, .int v] ∧ LogAt H t ops ∧ ops.length ≤ 200 ∧ v ∈ vals ops ∧ ∀ H', Keep NoS H H' → Q (.int (lastB ops v)) H'
theorem spLastBegin_arity {vs : List V} {H : Hp} {Q : VK} {E : XK} (h : spLastBegin vs H Q E) : vs.length = 2 := by obtain ⟨_, _, _, rfl, _⟩ := h; rfl
/-- a span before another one -/
def spBef (f1 : V) (tol l2 : Int) : Bool := match f1 with | .int i => decide (i + tol < l2) | _ => true
def spSpanBefore : Sp := fun vs H Q _ => ∃ (a b : Addr) (f1 f2 : V) (l1 l2 tol : Int), vs = [.ref a, .ref b, .int tol] ∧ H a = some (.tup [f1, .int l1]) ∧ H b = some (.tup [f2, .int l2]) ∧ (f1 = .non ∨ ∃ i, f1 = .int i) ∧ Q (.bl (spBef f1 tol l2)) H
theorem spSpanBefore_arity {vs : List V} {H : Hp} {Q : VK} {E : XK} (h : spSpanBefore vs H Q E) : vs.length = 3 := by obtain ⟨_, _, _, _, _, _, _, rfl, _⟩ := h; rfl
/-- a value before another one -/
def befV (ops : List Op) (tol u v : Int) : Bool := spBef (spanF ops u) tol (lastB ops v)
def isBef (ops : List Op) (tol u v : Int) : Bool := if u = v then false else befV ops tol u v
def spIsBefore : Sp := fun vs H Q _ => ∃ (t : Addr) (ops : List Op) (tol u v : Int), vs = [.ref t, .int tol, .int u, .int v] ∧ LogAt H t ops ∧ ops.length ≤ 200 ∧ u ∈ vals ops ∧ v ∈ vals ops ∧ ∀ H', Keep NoS H H' → Q (.bl (isBef ops tol u v)) H'
theorem spIsBefore_arity {vs : List V} {H : Hp} {Q : VK} {E : XK} (h : spIsBefore vs H Q E) : vs.length = 4 := by obtain ⟨_, _, _, _, _, rfl, _⟩ := h; rfl
theorem spanF_is {ops : List Op} {v : Int} : spanF ops v = .non ∨ ∃ i, spanF ops v = .int i := by
  unfold spanF
  by_cases h : v = 0
  · exact .inl (if_pos h)
  · exact .inr ⟨_, if_neg h⟩
def spIsIndex : Sp := fun vs H Q _ => ∃ (t : Addr) (xs : List V) (x : V) (d : PyData) (S : Addr → Prop), vs = [.ref t, x] ∧ H t = some (.tup xs) ∧ DD S H x d ∧ Q (.bl (within d 0 ((xs.length : Int) - 1))) H
theorem spIsIndex_arity {vs : List V} {H : Hp} {Q : VK} {E : XK} (h : spIsIndex vs H Q E) : vs.length = 2 := by obtain ⟨_, _, _, _, _, rfl, _⟩ := h; rfl
def sureB (ops : List Op) (tol : Int) (i j : Nat) : Bool := match ops[i]?, ops[j]? with | some a, some b => decide (a.e + tol < b.b) | _, _ => false
def spSurely : Sp := fun vs H Q _ => ∃ (t : Addr) (ops : List Op) (tol : Int) (i j : Nat), vs = [.ref t, .int tol, .int (i : Nat), .int (j : Nat)] ∧ LogAt H t ops ∧ i < ops.length ∧ j < ops.length ∧ ∀ H', Keep NoS H H' → Q (.bl (sureB ops tol i j)) H'
theorem spSurely_arity {vs : List V} {H : Hp} {Q : VK} {E : XK} (h : spSurely vs H Q E) : vs.length = 4 := by obtain ⟨_, _, _, _, _, rfl, _⟩ := h; rfl

def t_values_of (K : PySem.W.Frag) : TS :=
  (tRet (tCB (rTupOf K) (tCons (tSortC K (tVar 0) 1 (tOp (rIx K) (tVar 1) (tC (V.int 1)))) tNil)))

def t_demand_value (K : PySem.W.Frag) : TS :=
  (tIfS (tOr (tNot (tB (tCall spIsInt [] E0 (tCons (tVar 1) tNil)))) (tTest (tOp (rNiA K) (tVar 1) (tCall spValues [] E0 (tCons (tVar 0) tNil)))))
    tNever tNext)

def t_ended_first_1 (K : PySem.W.Frag) : TS :=
  (tSeq (tAsg (tOp (rIx K) (tVar 3) (tC (V.int 1))) (gName 4))
    (tIfS (tOr (tB (tDNotIn (tVar 4) (tVar 1))) (tTest (tOp rLtI (tOp (rIx K) (tVar 3) (tC (V.int 3))) (tOp (rIx K) (tOp (rIx K) (tVar 0) (tDGet (tVar 1) (tVar 4))) (tC (V.int 3))))))
    (sDPut (tVar 1) (tVar 4) (tVar 2)) tNext))

def t_ended_first (K : PySem.W.Frag) : TS :=
  (tSeq (tAsg tDNewK (gName 1))
    (tSeq (tFor (iEnA K (tCons (tVar 0) tNil)) (gTup K 2 (gCons (gName 2) (gCons (gName 3) gNil)))
    (t_ended_first_1 K))
    (tRet (tVar 1))))

def t_begun_last_1 (K : PySem.W.Frag) : TS :=
  (tSeq (tAsg (tOp (rIx K) (tVar 3) (tC (V.int 1))) (gName 4))
    (tIfS (tOr (tB (tDNotIn (tVar 4) (tVar 1))) (tTest (tOp rGtI (tOp (rIx K) (tVar 3) (tC (V.int 2))) (tOp (rIx K) (tOp (rIx K) (tVar 0) (tDGet (tVar 1) (tVar 4))) (tC (V.int 2))))))
    (sDPut (tVar 1) (tVar 4) (tVar 2)) tNext))

def t_begun_last (K : PySem.W.Frag) : TS :=
  (tSeq (tAsg tDNewK (gName 1))
    (tSeq (tFor (iEnA K (tCons (tVar 0) tNil)) (gTup K 2 (gCons (gName 2) (gCons (gName 3) gNil)))
    (t_begun_last_1 K))
    (tRet (tVar 1))))

def t_spans_of (K : PySem.W.Frag) : TS :=
  (tSeq (tAsg (tCall spEnded [] E0 (tCons (tVar 0) tNil)) (gName 1))
    (tSeq (tAsg (tCall spBegun [] E0 (tCons (tVar 0) tNil)) (gName 2))
    (tSeq (tLock (tAsg (tDc (iKeys (tVar 1)) (gName 4) tYes (tVar 4) (tTup (tCons (tOp (rIx K) (tOp (rIx K) (tVar 0) (tDGet (tVar 1) (tVar 4))) (tC (V.int 3))) (tCons (tOp (rIx K) (tOp (rIx K) (tVar 0) (tDGet (tVar 2) (tVar 4))) (tC (V.int 2))) tNil))) [4]) (gName 3)))
    (tSeq (tIfS (tB (tDIn (tC (V.int 0)) (tVar 3)))
    (sDPut (tVar 3) (tC (V.int 0)) (tTup (tCons (tC V.non) (tCons (tOp (rIx K) (tDGet (tVar 3) (tC (V.int 0))) (tC (V.int 1))) tNil)))) tNext)
    (tRet (tVar 3))))))

def t_is_span_before (K : PySem.W.Frag) : TS :=
  (tRet (tOrV (tOp rIsA (tOp (rIx K) (tVar 0) (tC (V.int 0))) (tC V.non)) (tOp rLtI (tOp (rAddA K) (tOp (rIx K) (tVar 0) (tC (V.int 0))) (tVar 2)) (tOp (rIx K) (tVar 1) (tC (V.int 1))))))

def t_is_before (K : PySem.W.Frag) : TS :=
  (tSeq (tDrop (tCall spDemand [] E0 (tCons (tVar 0) (tCons (tVar 2) tNil))))
    (tSeq (tDrop (tCall spDemand [] E0 (tCons (tVar 0) (tCons (tVar 3) tNil))))
    (tSeq (tAsg (tCall spSpans [] E0 (tCons (tVar 0) tNil)) (gName 4))
    (tRet (tAndV (tOp (rNeA K) (tVar 2) (tVar 3)) (tCall spSpanBefore [] E0 (tCons (tDGet (tVar 4) (tVar 2)) (tCons (tDGet (tVar 4) (tVar 3)) (tCons (tVar 1) tNil)))))))))

def t_is_index (K : PySem.W.Frag) : TS :=
  (tRet (tCall spWithin [] E0 (tCons (tVar 1) (tCons (tC (V.int 0)) (tCons (tOp rSubI (tCB (rLen K) (tCons (tVar 0) tNil)) (tC (V.int 1))) tNil)))))

def t_surely_before_1 (K : PySem.W.Frag) : TS :=
  (tIfS (tNot (tB (tCall spIsIndex [] E0 (tCons (tVar 0) (tCons (tVar 4) tNil)))))
    tNever tNext)

def t_surely_before (K : PySem.W.Frag) : TS :=
  (tSeq (tFor (iTup K (tTup (tCons (tVar 2) (tCons (tVar 3) tNil)))) (gName 4)
    (t_surely_before_1 K))
    (tRet (tOp rLtI (tOp (rAddA K) (tOp (rIx K) (tOp (rIx K) (tVar 0) (tVar 2)) (tC (V.int 3))) (tVar 1)) (tOp (rIx K) (tOp (rIx K) (tVar 0) (tVar 3)) (tC (V.int 2))))))

def t_operations_of (K : PySem.W.Frag) : TS :=
  (tSeq (tDrop (tCall spDemand [] E0 (tCons (tVar 0) (tCons (tVar 1) tNil))))
    (tRet (tCB (rTupOf K) (tCons (tLc (iEnA K (tCons (tVar 0) tNil)) (gTup K 2 (gCons (gName 2) (gCons (gName 3) gNil))) (tTest (tOp (rEqA K) (tOp (rIx K) (tVar 3) (tC (V.int 1))) (tVar 1))) (tVar 2) [2, 3]) tNil))))

def t_write_of_1 (K : PySem.W.Frag) : TS :=
  (tIfS (tTest (tOp (rEqA K) (tOp (rIx K) (tOp (rIx K) (tVar 0) (tVar 2)) (tC (V.int 0))) (tC (V.str "write"))))
    (tRet (tVar 2)) tNext)

def t_write_of (K : PySem.W.Frag) : TS :=
  (tSeq (tFor (iSeq K (tCall spOpsOf [] E0 (tCons (tVar 0) (tCons (tVar 1) tNil)))) (gName 2)
    (t_write_of_1 K))
    (tRet (tC V.non)))

def t_first_end (K : PySem.W.Frag) : TS :=
  (tSeq (tDrop (tCall spDemand [] E0 (tCons (tVar 0) (tCons (tVar 1) tNil))))
    (tRet (tOp (rIx K) (tDGet (tCall spSpans [] E0 (tCons (tVar 0) tNil)) (tVar 1)) (tC (V.int 0)))))

def t_last_begin (K : PySem.W.Frag) : TS :=
  (tSeq (tDrop (tCall spDemand [] E0 (tCons (tVar 0) (tCons (tVar 1) tNil))))
    (tRet (tOp (rIx K) (tDGet (tCall spSpans [] E0 (tCons (tVar 0) tNil)) (tVar 1)) (tC (V.int 1)))))

theorem w_never_of {D : Ends} {σ : LB.St} {H : Hp} (h : False) : tNever D σ H := h.elim
theorem pure_values_of {K : PySem.W.Frag} {vs : List V} {H : Hp} {Q : VK} {E : XK} (h : spValues vs H Q E) : t_values_of K { nx := fun _ H' => Q .non H', rt := Q } (start ["log", "operation"] vs) H := by
  obtain ⟨t, ops, rfl, lg, few, q⟩ := h
  show t_values_of K _ [some (.ref t), none] H
  unfold t_values_of
  walk_at "ws_11"
  obtain ⟨xs, hx, hl, hi⟩ := id lg
  refine w_var (by with_unfolding_all rfl) ⟨t, xs, ops.map (·.v), rfl, .inl (.inl hx), by omega, fun H2 k => .inl (.inl (k.tup _ _ hx)), ?_, by rw [List.length_map, hl], ?_⟩
  · intro j x hj
    have lj : j < ops.length := by
      rw [← hl]
      by_cases z : j < xs.length
      · exact z
      · rw [List.getElem?_eq_none (by omega)] at hj; cases hj
    obtain ⟨u, e1, e2⟩ := hi j _ (List.getElem?_eq_getElem lj)
    rw [hj] at e1
    cases e1
    refine ⟨ops[j].v, by rw [List.getElem?_map, List.getElem?_eq_getElem lj]; rfl, fun H2 Q2 k q2 => ?_⟩
    have hu := k.tup _ _ e2
    exact w_op (w_var (by with_unfolding_all rfl) (w_c (o_ixt (n := 1) hu rfl q2)))
  · intro ms p H2 asc mem nw
    have e : ms = vals ops := asc_eq asc (vals_asc ops) fun k => by rw [mem, vals_mem]
    subst e
    walk_at "ws_11"
    refine o_tupof nw.at_ fun p2 H3 n3 => ?_
    refine q p2 H3 (nw.keep.trans n3.keep) ?_ n3.at_
    cases z : H p2 with
    | none => rfl
    | some o => have := nw.keep.all _ _ id z; rw [n3.no] at this; cases this
theorem pure_demand_value {K : PySem.W.Frag} {vs : List V} {H : Hp} {Q : VK} {E : XK} (h : spDemand vs H Q E) : t_demand_value K { nx := fun _ H' => Q .non H', rt := Q } (start ["log", "value"] vs) H := by
  obtain ⟨t, ops, v, rfl, lg, few, hv, q⟩ := h
  show t_demand_value K _ [some (.ref t), some (.int v)] H
  unfold t_demand_value
  walk_at "ws_11"
  refine ⟨_, .int v, NoS, rfl, .int v, ?_⟩
  walk_at "ws_11"
  refine w_iteF rfl ?_
  walk_at "ws_11"
  refine ⟨t, ops, rfl, lg, few, fun p H' k _ hp => ?_⟩
  refine o_niIntsT hp ?_
  walk_at "ws_11"
  refine w_iteF (by simp [hv]) ?_
  walk_at "ws_11"
  exact q H' k

theorem pure_ended_first {K : PySem.W.Frag} {vs : List V} {H : Hp} {Q : VK} {E : XK} (h : spEnded vs H Q E) : t_ended_first K { nx := fun _ H' => Q .non H', rt := Q } (start ["log", "found", "index", "operation", "value"] vs) H := by
  obtain ⟨t, ops, rfl, lg, few, q⟩ := h
  show t_ended_first K _ [some (.ref t), none, none, none, none] H
  unfold t_ended_first
  walk_at "ws_11"
  refine w_dnew fun d H1 n1 => ?_
  walk_at "ws_11"
  obtain ⟨xs, hx, hl, hi⟩ := id lg
  refine w_forEnT (xs := xs) (by with_unfolding_all rfl) (fun n σ H' => ∃ x2 x3 x4, σ = [some (.ref t), some (.ref d), x2, x3, x4] ∧ Keep NoS H H' ∧ H' d = some (.dK (mkD (keysN (ops.take n)) (bstF kE ops n))))
    ⟨_, _, _, rfl, n1.keep, n1.at_⟩ (fun n σ H' _ h => by obtain ⟨_, _, _, _, k, _⟩ := h; exact k.tup _ _ hx) ?_ ?_
  · rintro n x σ H2 H3 T hn ⟨x2, x3, x4, rfl, k2, hd⟩ nw
    have ln : n < ops.length := by
      rw [← hl]
      by_cases z : n < xs.length
      · exact z
      · rw [List.getElem?_eq_none (by omega)] at hn; cases hn
    have ho : ops[n]? = some ops[n] := List.getElem?_eq_getElem ln
    obtain ⟨u, e1, e2⟩ := hi n _ ho
    rw [hn] at e1
    cases e1
    refine w_gt2 nw.at_ ?_
    have k3 := k2.trans nw.keep
    have hu := k3.tup _ _ e2
    have hd3 := nw.get hd
    have kl : (keysN (ops.take n)).length ≤ 1000 := by
      have := (keysN_facts (ops.take n)).2.2
      rw [List.length_take] at this
      omega
    unfold t_ended_first_1
    walk_at "ws_11"
    refine w_dni ?_
    walk_at "ws_11"
    refine o_dni hd3 ?_
    walk_at "ws_11"
    refine w_iteb (fun c => ?_) (fun c => ?_)
    · have hv : ops[n].v ∉ keysN (ops.take n) := by simpa using c
      refine w_iteT rfl ?_
      refine w_dput ?_
      walk_at "ws_11"
      refine o_dput hd3 kl ?_
      rw [grow_new ho hv]
      exact ⟨_, _, _, rfl, k3.putO (o := .lst []) n1.no, upd_same⟩
    · have hv : ops[n].v ∈ keysN (ops.take n) := by simpa using c
      obtain ⟨j, qo, hj, hq, g1, g2⟩ := grow_old (key := kE) ho hv
      obtain ⟨ys, w, f1, f2, f3⟩ := lg.get hq
      walk_at "ws_11"
      refine w_dget ?_
      walk_at "ws_11"
      refine o_dget hd3 hv ?_
      have ej : bstF kE ops n ops[n].v = .int (j : Nat) := by
        simp only [bstF, hj, Option.getD_some]
      rw [ej]
      refine o_ixt (k3.tup _ _ f1) f2 ?_
      walk_at "ws_11"
      refine o_ixt (n := 3) (k3.tup _ _ f3) rfl ?_
      walk_at "ws_11"
      refine w_iteb (fun c2 => ?_) (fun c2 => ?_)
      · refine w_dput ?_
        walk_at "ws_11"
        refine o_dput hd3 kl ?_
        rw [g1 (by have := of_decide_eq_true c2; simp only [kE, kB]; omega)]
        exact ⟨_, _, _, rfl, k3.putO (o := .lst []) n1.no, upd_same⟩
      · refine ⟨_, _, _, rfl, k3, ?_⟩
        rw [← g2 (by have := of_decide_eq_false c2; simp only [kE, kB]; omega)]
        exact hd3
  · rintro σ H2 ⟨x2, x3, x4, rfl, k2, hd⟩
    rw [hl, List.take_length] at hd
    walk_at "ws_11"
    exact q d H2 k2 n1.no hd

theorem pure_begun_last {K : PySem.W.Frag} {vs : List V} {H : Hp} {Q : VK} {E : XK} (h : spBegun vs H Q E) : t_begun_last K { nx := fun _ H' => Q .non H', rt := Q } (start ["log", "found", "index", "operation", "value"] vs) H := by
  obtain ⟨t, ops, rfl, lg, few, q⟩ := h
  show t_begun_last K _ [some (.ref t), none, none, none, none] H
  unfold t_begun_last
  walk_at "ws_11"
  refine w_dnew fun d H1 n1 => ?_
  walk_at "ws_11"
  obtain ⟨xs, hx, hl, hi⟩ := id lg
  refine w_forEnT (xs := xs) (by with_unfolding_all rfl) (fun n σ H' => ∃ x2 x3 x4, σ = [some (.ref t), some (.ref d), x2, x3, x4] ∧ Keep NoS H H' ∧ H' d = some (.dK (mkD (keysN (ops.take n)) (bstF kB ops n))))
    ⟨_, _, _, rfl, n1.keep, n1.at_⟩ (fun n σ H' _ h => by obtain ⟨_, _, _, _, k, _⟩ := h; exact k.tup _ _ hx) ?_ ?_
  · rintro n x σ H2 H3 T hn ⟨x2, x3, x4, rfl, k2, hd⟩ nw
    have ln : n < ops.length := by
      rw [← hl]
      by_cases z : n < xs.length
      · exact z
      · rw [List.getElem?_eq_none (by omega)] at hn; cases hn
    have ho : ops[n]? = some ops[n] := List.getElem?_eq_getElem ln
    obtain ⟨u, e1, e2⟩ := hi n _ ho
    rw [hn] at e1
    cases e1
    refine w_gt2 nw.at_ ?_
    have k3 := k2.trans nw.keep
    have hu := k3.tup _ _ e2
    have hd3 := nw.get hd
    have kl : (keysN (ops.take n)).length ≤ 1000 := by
      have := (keysN_facts (ops.take n)).2.2
      rw [List.length_take] at this
      omega
    unfold t_begun_last_1
    walk_at "ws_11"
    refine w_dni ?_
    walk_at "ws_11"
    refine o_dni hd3 ?_
    walk_at "ws_11"
    refine w_iteb (fun c => ?_) (fun c => ?_)
    · have hv : ops[n].v ∉ keysN (ops.take n) := by simpa using c
      refine w_iteT rfl ?_
      refine w_dput ?_
      walk_at "ws_11"
      refine o_dput hd3 kl ?_
      rw [grow_new ho hv]
      exact ⟨_, _, _, rfl, k3.putO (o := .lst []) n1.no, upd_same⟩
    · have hv : ops[n].v ∈ keysN (ops.take n) := by simpa using c
      obtain ⟨j, qo, hj, hq, g1, g2⟩ := grow_old (key := kB) ho hv
      obtain ⟨ys, w, f1, f2, f3⟩ := lg.get hq
      walk_at "ws_11"
      refine w_dget ?_
      walk_at "ws_11"
      refine o_dget hd3 hv ?_
      have ej : bstF kB ops n ops[n].v = .int (j : Nat) := by
        simp only [bstF, hj, Option.getD_some]
      rw [ej]
      refine o_ixt (k3.tup _ _ f1) f2 ?_
      walk_at "ws_11"
      refine o_ixt (n := 2) (k3.tup _ _ f3) rfl ?_
      walk_at "ws_11"
      refine w_iteb (fun c2 => ?_) (fun c2 => ?_)
      · refine w_dput ?_
        walk_at "ws_11"
        refine o_dput hd3 kl ?_
        rw [g1 (by have := of_decide_eq_true c2; simp only [kE, kB]; omega)]
        exact ⟨_, _, _, rfl, k3.putO (o := .lst []) n1.no, upd_same⟩
      · refine ⟨_, _, _, rfl, k3, ?_⟩
        rw [← g2 (by have := of_decide_eq_false c2; simp only [kE, kB]; omega)]
        exact hd3
  · rintro σ H2 ⟨x2, x3, x4, rfl, k2, hd⟩
    rw [hl, List.take_length] at hd
    walk_at "ws_11"
    exact q d H2 k2 n1.no hd

theorem Keep.unlock {H H' : Hp} {d : Addr} {kvs : List (Key × V)} (k : Keep (At d) H H') (e : H d = some (.dK kvs)) : Keep NoS H (upd H' d (.dK kvs)) := by
  refine ⟨fun b o _ h => ?_, fun b xs h => ?_⟩
  · by_cases z : b = d
    · rw [z, e] at h; rw [z, upd_same]; exact h
    · rw [upd_ne z]; exact k.all b o z h
  · have z : b ≠ d := fun z => by rw [z, e] at h; cases h
    rw [upd_ne z]; exact k.tup b xs h
theorem Keep.lock {H : Hp} {d : Addr} {o : Obj} {kvs : List (Key × V)} (e : H d = some (.dK kvs)) : Keep (At d) H (upd H d (.frz o (.dK kvs))) :=
  ⟨fun b _ n h => by rw [upd_ne n]; exact h, fun b _ h => by rw [upd_ne (fun z => by rw [z, e] at h; cases h)]; exact h⟩
theorem free_of {S : Addr → Prop} {H H' : Hp} {p : Addr} (k : Keep S H H') (n : ¬ S p) (h : H' p = none) : H p = none := by
  cases z : H p with
  | none => rfl
  | some o => rw [k.all p o n z] at h; cases h
theorem pure_spans_of {K : PySem.W.Frag} {vs : List V} {H : Hp} {Q : VK} {E : XK} (h : spSpans vs H Q E) : t_spans_of K { nx := fun _ H' => Q .non H', rt := Q } (start ["log", "ended", "begun", "spans", "value"] vs) H := by
  obtain ⟨t, ops, rfl, lg, few, q⟩ := h
  show t_spans_of K _ [some (.ref t), none, none, none, none] H
  unfold t_spans_of
  walk_at "ws_11"
  refine ⟨t, ops, rfl, lg, few, fun d1 H1 k1 z1 e1 => ?_⟩
  walk_at "ws_11"
  refine ⟨t, ops, rfl, lg.keep k1, few, fun d2 H2 k2 z2 e2 => ?_⟩
  walk_at "ws_11"
  have kk := keysN_facts ops
  have ed1 := k2.all _ _ id e1
  have lg2 := (lg.keep k1).keep k2
  have ne21 : d2 ≠ d1 := fun z => by rw [z] at z2; rw [e1] at z2; cases z2
  refine ⟨d1, _, ed1, trivial, fun od => ?_⟩
  have kL : Keep (At d1) H2 (upd H2 d1 (.frz od (.dK (mkD (keysN ops) (bstF kE ops ops.length))))) := Keep.lock ed1
  refine ⟨.ref d1, by with_unfolding_all rfl, d1, od, rfl, .inl ⟨_, upd_same, fun D hD => ?_⟩⟩
  have zD : H2 D = none := by
    by_cases z : D = d1
    · rw [z, upd_same] at hD; cases hD
    · rwa [upd_ne z] at hD
  have nD : D ≠ d1 := fun z => by rw [z, upd_same] at hD; cases hD
  refine dc_it walk_keys (fun n H' => Keep (At d1) H2 H' ∧ H' d1 = some (.frz od (.dK (mkD (keysN ops) (bstF kE ops ops.length)))) ∧ ∃ f : Int → V, H' D = some (.dK (mkD ((keysN ops).take n) f)) ∧ ∀ v ∈ (keysN ops).take n, ∃ u, f v = .ref u ∧ H' u = some (.tup [.int (firstE ops v), .int (lastB ops v)]))
    ⟨kL.putO (o := .lst []) zD, by rw [upd_ne (Ne.symm nD)]; exact upd_same, fun _ => .non, upd_same, fun v hv => by simp at hv⟩ (fun n H' _ h => h.2.1) ?_ ?_
  · rintro n x H3 H4 hn ⟨k3, f1, f, hf, hv⟩ ⟨rfl, k, y, hk, rfl⟩
    obtain ⟨v, ev, rfl, rfl⟩ := mkD_at hk
    refine ⟨rfl, ?_⟩
    simp only [tYes, if_true]
    walk_at "ws_11"
    have hvk : v ∈ keysN ops := List.mem_of_getElem? ev
    have hvv := keysN_vals.mp hvk
    obtain ⟨qe, be⟩ := bE_best hvv
    obtain ⟨qb, bb⟩ := bB_best hvv
    have lg3 := lg2.keep k3
    obtain ⟨xs, u1, a1, a2, a3⟩ := lg3.get be.at_
    obtain ⟨xs', u2, b1, b2, b3⟩ := lg3.get bb.at_
    refine w_dget ?_
    walk_at "ws_11"
    refine o_dgetR (.inr ⟨_, f1⟩) hvk ?_
    refine o_ixt (n := bE ops v) a1 a2 ?_
    walk_at "ws_11"
    refine w_dget ?_
    walk_at "ws_11"
    refine o_dget (k3.all _ _ ne21 e2) hvk ?_
    refine o_ixt (n := bB ops v) b1 b2 ?_
    walk_at "ws_11"
    refine k_tup (by simp; decide) fun u H5 n5 => ?_
    have hD5 := n5.get hf
    have few2 : (((keysN ops).take n)).length ≤ 1000 := by rw [List.length_take]; omega
    refine ⟨_, .inl v, rfl, hD5, by rw [mkD_len]; exact Nat.lt_of_le_of_lt few2 (by decide), (k3.trans n5.keep).putO (o := .lst []) zD, by rw [upd_ne (Ne.symm nD)]; exact n5.get f1, fun w => if w = v then .ref u else f w, ?_, ?_⟩
    · have nv : v ∉ (keysN ops).take n := fun z => by
        obtain ⟨m, hm, em⟩ := List.mem_iff_getElem.mp z
        rw [List.length_take] at hm
        rw [List.getElem_take] at em
        obtain ⟨hn', en⟩ := List.getElem?_eq_some_iff.mp ev
        have := (List.getElem_inj kk.2.1).mp (em.trans en.symm)
        omega
      rw [upd_same, mkD_put, if_neg nv, List.take_add_one, ev]
      rfl
    · intro w hw
      rw [List.take_add_one, ev] at hw
      have uD : u ≠ D := fun z => by have := n5.no; rw [z, hf] at this; cases this
      by_cases z : w = v
      · subst z
        refine ⟨u, if_pos rfl, ?_⟩
        rw [upd_ne uD, n5.at_, firstE_is be, lastB_is bb]
      · simp only [Option.toList_some, List.mem_append, List.mem_singleton, z, or_false] at hw
        obtain ⟨u0, c1, c2⟩ := hv w hw
        refine ⟨u0, (if_neg z).trans c1, ?_⟩
        rw [upd_ne (fun y => by rw [y, hf] at c2; cases c2)]
        exact n5.get c2
  · rintro H3 ⟨k3, f1, f, hf, hv⟩
    rw [mkD_len, List.take_length] at hf hv
    refine ⟨f1, ?_⟩
    have k4 := k3.unlock ed1
    have hf4 : (upd H3 d1 (.dK (mkD (keysN ops) (bstF kE ops ops.length)))) D = some (.dK (mkD (keysN ops) f)) := by rw [upd_ne nD]; exact hf
    have hv4 : ∀ v ∈ keysN ops, ∃ u, f v = .ref u ∧ (upd H3 d1 (.dK (mkD (keysN ops) (bstF kE ops ops.length)))) u = some (.tup [.int (firstE ops v), .int (lastB ops v)]) := fun v h => by
      obtain ⟨u, c1, c2⟩ := hv v h
      exact ⟨u, c1, by rw [upd_ne (fun y => by rw [y, f1] at c2; cases c2)]; exact c2⟩
    generalize (upd H3 d1 (.dK (mkD (keysN ops) (bstF kE ops ops.length)))) = H4 at k4 hf4 hv4
    walk_at "ws_11"
    refine w_din ?_
    walk_at "ws_11"
    refine o_din hf4 ?_
    walk_at "ws_11"
    have zDH : H D = none := free_of (k1.trans k2) id zD
    refine w_iteb (fun c => ?_) (fun c => ?_)
    · have h0 : (0 : Int) ∈ keysN ops := by simpa using c
      obtain ⟨u0, c1, c2⟩ := hv4 0 h0
      refine w_dput ?_
      walk_at "ws_11"
      refine w_dget ?_
      walk_at "ws_11"
      refine o_dget hf4 h0 ?_
      rw [c1]
      walk_at "ws_11"
      refine k_tup (by simp; decide) fun u H5 n5 => ?_
      have hD5 := n5.get hf4
      walk_at "ws_11"
      refine o_dput hD5 (by omega) ?_
      walk_at "ws_11"
      refine q D _ (((k1.trans k2).trans (k4.trans n5.keep)).putO (o := .lst []) zDH) zDH ⟨fun w => if w = 0 then .ref u else f w, .inl (by rw [upd_same, mkD_put, if_pos h0]), fun w hw => ?_⟩
      have uD : u ≠ D := fun z => by have := n5.no; rw [z, hf4] at this; cases this
      by_cases z : w = 0
      · subst z
        refine ⟨u, if_pos rfl, ?_⟩
        rw [upd_ne uD, n5.at_]
        rfl
      · obtain ⟨u1, g1, g2⟩ := hv4 w hw
        refine ⟨u1, (if_neg z).trans g1, ?_⟩
        rw [upd_ne (fun y => by rw [y, hf4] at g2; cases g2), n5.get g2]
        simp only [spanT, spanF, z, if_false]
    · have h0 : (0 : Int) ∉ keysN ops := by simpa using c
      walk_at "ws_11"
      refine q D _ ((k1.trans k2).trans k4) zDH ⟨f, .inl hf4, fun w hw => ?_⟩
      obtain ⟨u1, g1, g2⟩ := hv4 w hw
      have z : ¬ w = 0 := fun z => h0 (z ▸ hw)
      exact ⟨u1, g1, by rw [g2]; simp only [spanT, spanF, z, if_false]⟩
theorem pure_is_span_before {K : PySem.W.Frag} {vs : List V} {H : Hp} {Q : VK} {E : XK} (h : spSpanBefore vs H Q E) : t_is_span_before K { nx := fun _ H' => Q .non H', rt := Q } (start ["one", "other", "tolerance"] vs) H := by
  obtain ⟨a, b, f1, f2, l1, l2, tol, rfl, ha, hb, hf, q⟩ := h
  show t_is_span_before K _ [some (.ref a), some (.ref b), some (.int tol)] H
  unfold t_is_span_before
  walk_at "ws_11"
  rcases hf with rfl | ⟨i, rfl⟩
  · refine .inl ⟨rfl, ?_⟩
    walk_at "ws_11"
    refine w_iteT rfl ?_
    exact q
  · refine .inl ⟨rfl, ?_⟩
    walk_at "ws_11"
    refine w_iteF (by simp) ?_
    walk_at "ws_11"
    exact q
theorem pure_is_before {K : PySem.W.Frag} {vs : List V} {H : Hp} {Q : VK} {E : XK} (h : spIsBefore vs H Q E) : t_is_before K { nx := fun _ H' => Q .non H', rt := Q } (start ["log", "tolerance", "one", "other", "spans"] vs) H := by
  obtain ⟨t, ops, tol, u, v, rfl, lg, few, hu, hv, q⟩ := h
  show t_is_before K _ [some (.ref t), some (.int tol), some (.int u), some (.int v), none] H
  unfold t_is_before
  walk_at "ws_11"
  refine ⟨t, ops, u, rfl, lg, few, hu, fun H1 k1 => ?_⟩
  walk_at "ws_11"
  refine ⟨t, ops, v, rfl, lg.keep k1, few, hv, fun H2 k2 => ?_⟩
  walk_at "ws_11"
  refine ⟨t, ops, rfl, (lg.keep k1).keep k2, few, fun d H3 k3 _ sp => ?_⟩
  walk_at "ws_11"
  have kk := (k1.trans k2).trans k3
  have e0 : (!decide (V.int u = V.int v)) = !decide (u = v) := by simp
  rw [e0]
  refine w_iteb (fun c => ?_) (fun c => ?_)
  · have ne : ¬ u = v := by simpa using c
    obtain ⟨t1, g1, h1⟩ := sp.get hu
    obtain ⟨t2, g2, h2⟩ := sp.get hv
    walk_at "ws_11"
    refine w_dget ?_
    walk_at "ws_11"
    refine o_dgetS g1 ?_
    walk_at "ws_11"
    refine w_dget ?_
    walk_at "ws_11"
    refine o_dgetS g2 ?_
    walk_at "ws_11"
    refine ⟨t1, t2, _, _, _, _, tol, rfl, h1, h2, spanF_is, ?_⟩
    have q1 := q H3 kk
    unfold isBef at q1
    rw [if_neg ne] at q1
    exact q1
  · have e : u = v := by simpa using c
    have q1 := q H3 kk
    unfold isBef at q1
    rw [if_pos e] at q1
    exact q1
theorem pure_is_index {K : PySem.W.Frag} {vs : List V} {H : Hp} {Q : VK} {E : XK} (h : spIsIndex vs H Q E) : t_is_index K { nx := fun _ H' => Q .non H', rt := Q } (start ["log", "value"] vs) H := by
  obtain ⟨t, xs, x, d, S, rfl, ht, hd, q⟩ := h
  show t_is_index K _ [some (.ref t), some x] H
  unfold t_is_index
  walk_at "ws_11"
  exact ⟨x, d, S, _, _, rfl, hd, q⟩
theorem pure_surely_before {K : PySem.W.Frag} {vs : List V} {H : Hp} {Q : VK} {E : XK} (h : spSurely vs H Q E) : t_surely_before K { nx := fun _ H' => Q .non H', rt := Q } (start ["log", "tolerance", "one", "other", "index"] vs) H := by
  obtain ⟨t, ops, tol, i, j, rfl, lg, hi, hj, q⟩ := h
  show t_surely_before K _ [some (.ref t), some (.int tol), some (.int (i : Nat)), some (.int (j : Nat)), none] H
  unfold t_surely_before
  walk_at "ws_11"
  refine k_tup (by simp; decide) fun T H1 n1 => ?_
  obtain ⟨xs, hx, hl, _⟩ := lg.keep (S := NoS) n1.keep
  refine k_Ft n1.at_ (fun _ σ H' => ∃ x4, σ = [some (.ref t), some (.int tol), some (.int (i : Nat)), some (.int (j : Nat)), x4] ∧ H' = H1) ⟨_, rfl, rfl⟩ (fun _ _ _ _ h => by obtain ⟨_, _, rfl⟩ := h; exact n1.at_) ?_ ?_
  · rintro n x σ H2 hn ⟨x4, rfl, rfl⟩
    walk_at "ws_11"
    unfold t_surely_before_1
    have hxi : ∃ m : Nat, x = .int (m : Nat) ∧ m < xs.length := by
      match n, hn with
      | 0, hn => exact ⟨i, (Option.some.inj hn).symm, by omega⟩
      | 1, hn => exact ⟨j, (Option.some.inj hn).symm, by omega⟩
    obtain ⟨m, rfl, hm⟩ := hxi
    walk_at "ws_11"
    refine ⟨t, xs, _, .int (m : Nat), NoS, rfl, hx, .int _, ?_⟩
    walk_at "ws_11"
    refine w_iteF (by simp [within]; omega) ?_
    walk_at "ws_11"
    exact ⟨_, rfl, rfl⟩
  · rintro σ H2 ⟨x4, rfl, rfl⟩
    have lg1 := lg.keep (S := NoS) n1.keep
    obtain ⟨_, u1, a1, a2, a3⟩ := lg1.get (List.getElem?_eq_getElem hi)
    obtain ⟨_, u2, b1, b2, b3⟩ := lg1.get (List.getElem?_eq_getElem hj)
    walk_at "ws_11"
    refine o_ixt a1 a2 ?_
    walk_at "ws_11"
    refine o_ixt b1 b2 ?_
    walk_at "ws_11"
    have q1 := q H2 n1.keep
    unfold sureB at q1
    rw [List.getElem?_eq_getElem hi, List.getElem?_eq_getElem hj] at q1
    exact q1
theorem pure_operations_of {K : PySem.W.Frag} {vs : List V} {H : Hp} {Q : VK} {E : XK} (h : spOpsOf vs H Q E) : t_operations_of K { nx := fun _ H' => Q .non H', rt := Q } (start ["log", "value", "index", "operation"] vs) H := by
  obtain ⟨t, ops, v, rfl, lg, few, hv, q⟩ := h
  show t_operations_of K _ [some (.ref t), some (.int v), none, none] H
  unfold t_operations_of
  walk_at "ws_11"
  refine ⟨t, ops, v, rfl, lg, few, hv, fun H1 k1 => ?_⟩
  walk_at "ws_11"
  refine lc_idx (t := t) (v := v) (by with_unfolding_all rfl) (by with_unfolding_all rfl) (lg.keep k1) (by decide) (by decide) (by decide) (by simp) (by simp) few fun p H2 k2 zp hp => ?_
  walk_at "ws_11"
  refine o_tupof hp fun p2 H3 n3 => ?_
  exact q p2 H3 ((k1.trans k2).trans n3.keep) (free_of (k1.trans k2) id n3.no) n3.at_
theorem find_at {p : Nat → Bool} : ∀ {l : List Nat} {i n : Nat}, l[i]? = some n → p n = true → (∀ (m k : Nat), m < i → l[m]? = some k → p k = false) → l.find? p = some n
  | [], i, n, h, _, _ => by simp at h
  | a :: l, 0, n, h, hp, _ => by
    have h : a = n := Option.some.inj h
    subst h
    rw [List.find?_cons, hp]
  | a :: l, i + 1, n, h, hp, no => by
    rw [List.find?_cons, no 0 a (by omega) rfl]
    exact find_at (i := i) (by simpa using h) hp fun m k hm e => no (m + 1) k (by omega) (by simpa using e)
theorem pure_write_of {K : PySem.W.Frag} {vs : List V} {H : Hp} {Q : VK} {E : XK} (h : spWriteOf vs H Q E) : t_write_of K { nx := fun _ H' => Q .non H', rt := Q } (start ["log", "value", "index"] vs) H := by
  obtain ⟨t, ops, v, rfl, lg, few, hv, q⟩ := h
  show t_write_of K _ [some (.ref t), some (.int v), none] H
  unfold t_write_of
  walk_at "ws_11"
  refine w_forSt ?_
  walk_at "ws_11"
  refine ⟨t, ops, v, rfl, lg, few, hv, fun p H1 k1 zp hp => ?_⟩
  have lg1 := lg.keep k1
  refine k_Ft hp (fun n σ H' => (∃ x2, σ = [some (.ref t), some (.int v), x2]) ∧ H' = H1 ∧ ∀ (m k : Nat), m < n → (idxOf ops v)[m]? = some k → (match ops[k]? with | some o => o.w | none => false) = false) ⟨⟨_, rfl⟩, rfl, fun m k hm => by omega⟩ (fun _ _ _ _ h => by obtain ⟨_, rfl, _⟩ := h; exact hp) ?_ ?_
  · rintro n x σ H2 hn ⟨⟨x2, rfl⟩, rfl, no⟩
    rw [List.getElem?_map] at hn
    obtain ⟨k, hk, rfl⟩ := Option.map_eq_some_iff.mp hn
    obtain ⟨o, ho, ov⟩ := idx_mem.mp (List.mem_of_getElem? hk)
    obtain ⟨xs, u, a1, a2, a3⟩ := lg1.get ho
    walk_at "ws_11"
    unfold t_write_of_1
    walk_at "ws_11"
    refine o_ixt a1 a2 ?_
    walk_at "ws_11"
    rw [kind_eq]
    refine w_iteb (fun c => ?_) (fun c => ?_)
    · walk_at "ws_11"
      have e : wrIx ops v = some k := find_at hk (by rw [ho]; exact c) no
      have q1 := q H2 k1
      rw [e] at q1
      exact q1
    · walk_at "ws_11"
      refine ⟨⟨_, rfl⟩, rfl, fun m k2 hm e => ?_⟩
      by_cases z : m < n
      · exact no m k2 z e
      · have : m = n := by omega
        subst this
        rw [hk] at e
        cases e
        rw [ho]
        exact c
  · rintro σ H2 ⟨⟨x2, rfl⟩, rfl, no⟩
    walk_at "ws_11"
    have e : wrIx ops v = none := by
      unfold wrIx
      rw [List.find?_eq_none]
      intro k hk
      obtain ⟨m, hm, em⟩ := List.mem_iff_getElem.mp hk
      have e2 := no m k (by rw [List.length_map]; exact hm) (by rw [List.getElem?_eq_getElem hm, em])
      exact fun h => Bool.noConfusion (e2.symm.trans h)
    have q1 := q H2 k1
    rw [e] at q1
    exact q1
theorem pure_first_end {K : PySem.W.Frag} {vs : List V} {H : Hp} {Q : VK} {E : XK} (h : spFirstEnd vs H Q E) : t_first_end K { nx := fun _ H' => Q .non H', rt := Q } (start ["log", "value"] vs) H := by
  obtain ⟨t, ops, v, rfl, lg, few, hv, q⟩ := h
  show t_first_end K _ [some (.ref t), some (.int v)] H
  unfold t_first_end
  walk_at "ws_11"
  refine ⟨t, ops, v, rfl, lg, few, hv, fun H1 k1 => ?_⟩
  walk_at "ws_11"
  refine w_dget ?_
  walk_at "ws_11"
  refine ⟨t, ops, rfl, lg.keep k1, few, fun d H2 k2 _ sp => ?_⟩
  obtain ⟨t1, g1, h1⟩ := sp.get hv
  walk_at "ws_11"
  refine o_dgetS g1 ?_
  walk_at "ws_11"
  exact q H2 (k1.trans k2)
theorem pure_last_begin {K : PySem.W.Frag} {vs : List V} {H : Hp} {Q : VK} {E : XK} (h : spLastBegin vs H Q E) : t_last_begin K { nx := fun _ H' => Q .non H', rt := Q } (start ["log", "value"] vs) H := by
  obtain ⟨t, ops, v, rfl, lg, few, hv, q⟩ := h
  show t_last_begin K _ [some (.ref t), some (.int v)] H
  unfold t_last_begin
  walk_at "ws_11"
  refine ⟨t, ops, v, rfl, lg, few, hv, fun H1 k1 => ?_⟩
  walk_at "ws_11"
  refine w_dget ?_
  walk_at "ws_11"
  refine ⟨t, ops, rfl, lg.keep k1, few, fun d H2 k2 _ sp => ?_⟩
  obtain ⟨t1, g1, h1⟩ := sp.get hv
  walk_at "ws_11"
  refine o_dgetS g1 ?_
  walk_at "ws_11"
  exact q H2 (k1.trans k2)
end LB

open PySem PySem.Spec PyProof.Rows L2 LB
/-! the tactic: one step of a reading; many -/
local macro_rules | `(tactic| walk_at "w1_12") => `(tactic| first
  | with_reducible refine w_seq ?_ | with_reducible refine w_asg ?_ | with_reducible refine w_drop ?_ | with_reducible refine w_ret ?_ | with_reducible refine w_next ?_
  | with_reducible refine w_ifs ?_ | with_reducible refine w_forR1 ?_ | with_reducible refine w_forR2 ?_ | with_reducible refine w_forL ?_ | with_reducible refine w_forT ?_ | with_reducible refine w_name ?_ | with_reducible refine w_sub ?_ | with_reducible refine w_par ?_
  | with_reducible refine w_var (by with_unfolding_all rfl) ?_ | with_reducible refine w_c ?_ | with_reducible refine w_op ?_ | with_reducible refine w_un ?_
  | with_reducible refine w_test ?_ | with_reducible refine w_tb ?_ | with_reducible refine w_nil ?_ | with_reducible refine w_cons ?_ | with_reducible refine w_cb ?_ | with_reducible refine w_call ?_
  | with_reducible refine w_not ?_ | with_reducible refine w_and ?_ | with_reducible refine w_or ?_ | with_reducible refine w_andV ?_ | with_reducible refine w_orV ?_ | with_reducible refine w_notV ?_
  | with_reducible refine w_ife ?_ | with_reducible refine w_chain ?_ | with_reducible refine w_bm ?_ | with_reducible refine w_sl ?_ | with_reducible refine w_part ?_ | with_reducible refine w_nopart ?_
  | with_reducible refine w_exb ?_ | with_reducible refine w_exi ?_ | with_reducible refine w_ex2 ?_ | with_reducible refine w_ex3 ?_ | with_reducible refine w_lstrg ?_ | with_reducible refine w_rg2 ?_ | with_reducible refine w_rg1 ?_ | with_reducible refine w_exij ?_ | with_reducible refine w_tup ?_ | with_reducible refine w_lst ?_
  | with_reducible refine o_add ?_ | with_reducible refine o_sub ?_ | with_reducible refine o_neg ?_ | with_reducible refine o_lt ?_ | with_reducible refine o_le ?_ | with_reducible refine o_gt ?_ | with_reducible refine o_ge ?_
  | with_reducible refine o_ixL (by assumption) (by decide) (by with_unfolding_all rfl) ?_ | with_reducible refine o_ixT (by assumption) (by decide) (by with_unfolding_all rfl) ?_
  | with_reducible refine o_mod (by first | decide | omega) ?_ | with_reducible refine o_mul (by first | decide | omega) ?_ | with_reducible refine o_fdv (by first | decide | omega) (by first | decide | omega) ?_ | with_reducible refine o_setL (by assumption) (by decide) (by simp) ?_
  | with_reducible refine oo_addi ?_ | with_reducible refine oo_sub ?_ | with_reducible refine oo_neg ?_ | with_reducible refine w_rev ?_ | with_reducible refine w_m0 ?_
  | with_reducible refine w_par3 ?_ | with_reducible refine w_tyl (by assumption) ?_
  | with_reducible refine o_abs ?_ | with_reducible refine o_eqs (by with_unfolding_all rfl) ?_ | with_reducible refine o_nes (by with_unfolding_all rfl) ?_ | with_reducible refine o_max2 ?_ | with_reducible refine o_min2 ?_ | with_reducible refine o_isiX (by assumption) ?_ | with_reducible refine o_lenl (by assumption) ?_ | with_reducible refine o_lent (by assumption) ?_ | with_reducible refine o_int1b ?_)
local macro_rules | `(tactic| walk_at "ws_12") => `(tactic| repeat (first | walk_at "w1_12" | dsimp only [List.set_cons_zero, List.set_cons_succ]))
namespace LB
/-! ### k06: the law's own defs -/
theorem wAll_op : ∀ {ops : List Op}, (∀ o ∈ ops, o.ok) → PyData.weightAll (ops.map Op.dat) ≤ ops.length * 409
  | [], _ => by simp [PyData.weightAll]
  | o :: ops, h => by
    have h1 := (op_nice (h o List.mem_cons_self)).wt
    have h2 := wAll_op (ops := ops) fun p hp => h p (List.mem_cons_of_mem _ hp)
    simp only [List.map_cons, PyData.weightAll, List.length_cons]
    omega
theorem log_nice {ops : List Op} (h : ∀ o ∈ ops, o.ok) (few : ops.length ≤ 200) : Nice 0 2 81800 (.tuple (ops.map Op.dat)) := by
  refine nice_tup (fun d hd => ?_) (fun d hd => ?_) ?_
  · obtain ⟨o, ho, rfl⟩ := List.mem_map.mp hd
    exact (op_nice (h o ho)).ok
  · obtain ⟨o, ho, rfl⟩ := List.mem_map.mp hd
    exact (op_nice (h o ho)).dp
  · have := wAll_op h
    omega
theorem o_reprLog {H : Hp} {Q : VK} {t : Addr} {ops : List Op} (lg : LogAt H t ops) (ok : ∀ o ∈ ops, o.ok) (few : ops.length ≤ 200) (q : Q (.str (PyData.tuple (ops.map Op.dat)).shown) H) : rRepr [.ref t] H Q :=
  o_repr (S := NoS) lg.dd (log_nice ok few) (by omega) (by omega) (by omega) q
theorem o_reprB {H : Hp} {Q : VK} {b : Bool} (q : Q (.str (PyData.bool b).shown) H) : rRepr [.bl b] H Q :=
  o_repr (S := NoS) (n := 0) (k := 0) (w := 0) (.bl b) nice_bl (by omega) (by omega) (by omega) q
def spWorths : Sp := fun vs H Q _ => ∃ (t : Addr) (ops : List Op), vs = [.ref t] ∧ LogAt H t ops ∧ ops.length ≤ 200 ∧ ∀ (p : Addr) (H' : Hp), Keep NoS H H' → H p = none → H' p = some (.lst ((vals ops).map V.int)) → Q (.ref p) H'
theorem spWorths_arity {vs : List V} {H : Hp} {Q : VK} {E : XK} (h : spWorths vs H Q E) : vs.length = 1 := by obtain ⟨_, _, rfl, _⟩ := h; rfl
/-- the law's own first end -/
def fstL (ops : List Op) (v : Int) : Int := if 0 < v then firstE ops v else -1000000000000000000
def EndsAt (H : Hp) (d : Addr) (ops : List Op) : Prop := ∃ f : Int → V, Rd H d (.dK (mkD (vals ops) f)) ∧ ∀ v ∈ vals ops, ∃ t, f v = .ref t ∧ H t = some (.tup [.int (fstL ops v), .int (lastB ops v)])
theorem EndsAt.get {H : Hp} {d : Addr} {ops : List Op} {v : Int} (h : EndsAt H d ops) (hv : v ∈ vals ops) : ∃ t, DGet H d (.int v) (some (.ref t)) ∧ H t = some (.tup [.int (fstL ops v), .int (lastB ops v)]) := by
  obtain ⟨f, h1, h2⟩ := h
  obtain ⟨t, e1, e2⟩ := h2 v hv
  exact ⟨t, .inl ⟨_, .inl v, h1, rfl, by rw [mkD_val, if_pos hv, e1]⟩, e2⟩
theorem EndsAt.keep {S : Addr → Prop} {H H' : Hp} {d : Addr} {ops : List Op} (h : EndsAt H d ops) (k : Keep S H H') (n : ¬ S d) : EndsAt H' d ops := by
  obtain ⟨f, h1, h2⟩ := h
  refine ⟨f, ?_, fun v hv => ?_⟩
  · rcases h1 with h1 | ⟨o, h1⟩
    · exact .inl (k.all _ _ n h1)
    · exact .inr ⟨o, k.all _ _ n h1⟩
  · obtain ⟨t, e1, e2⟩ := h2 v hv
    exact ⟨t, e1, k.tup _ _ e2⟩
def spEndsL : Sp := fun vs H Q _ => ∃ (t : Addr) (ops : List Op), vs = [.ref t] ∧ LogAt H t ops ∧ ops.length ≤ 200 ∧ ∀ (p : Addr) (H' : Hp) (f : Int → V), Keep NoS H H' → H p = none → H' p = some (.dK (mkD (vals ops) f)) → EndsAt H' p ops → Q (.ref p) H'
theorem spEndsL_arity {vs : List V} {H : Hp} {Q : VK} {E : XK} (h : spEndsL vs H Q E) : vs.length = 1 := by obtain ⟨_, _, rfl, _⟩ := h; rfl
def spPairR : Sp := fun vs H Q _ => ∃ (t d : Addr) (ops : List Op) (tol u v : Int), vs = [.ref t, .ref d, .int tol, .int u, .int v] ∧ LogAt H t ops ∧ ops.length ≤ 200 ∧ (∀ o ∈ ops, o.ok) ∧ EndsAt H d ops ∧ 0 ≤ tol ∧ tol ≤ 10000000000000000 ∧ u ∈ vals ops ∧ v ∈ vals ops ∧ ∀ H', Keep NoS H H' → Q (.bl true) H'
theorem spPairR_arity {vs : List V} {H : Hp} {Q : VK} {E : XK} (h : spPairR vs H Q E) : vs.length = 5 := by obtain ⟨_, _, _, _, _, _, rfl, _⟩ := h; rfl
def spLogR : Sp := fun vs H Q _ => ∃ (t : Addr) (ops : List Op) (tol : Int), vs = [.ref t, .int tol] ∧ LogAt H t ops ∧ ops.length ≤ 200 ∧ (∀ o ∈ ops, o.ok) ∧ 0 ≤ tol ∧ tol ≤ 10000000000000000 ∧ ∀ H', Keep NoS H H' → Q (.bl true) H'
theorem spLogR_arity {vs : List V} {H : Hp} {Q : VK} {E : XK} (h : spLogR vs H Q E) : vs.length = 2 := by obtain ⟨_, _, _, rfl, _⟩ := h; rfl

def t__law_worths (K : PySem.W.Frag) : TS :=
  (tRet (tSortL K (tLc (iSeq K (tVar 0)) (gName 1) tYes (tOp (rIx K) (tVar 1) (tC (V.int 1))) [1])))

def t__law_ends_1 (K : PySem.W.Frag) : TS :=
  (tSeq (tAsg (tLc (iSeq K (tVar 0)) (gName 4) (tTest (tOp (rEqA K) (tOp (rIx K) (tVar 4) (tC (V.int 1))) (tVar 2))) (tVar 4) [4]) (gName 3))
    (tSeq (tAsg (tIf (tTest (tOp rGtI (tVar 2) (tC (V.int 0)))) (tCB (rMin K) (tCons (tLc (iSeq K (tVar 3)) (gName 4) tYes (tOp (rIx K) (tVar 4) (tC (V.int 3))) [4]) tNil)) (tUn rNegI (tOp rPowI (tC (V.int 10)) (tC (V.int 18))))) (gName 5))
    (sDPut (tVar 1) (tVar 2) (tTup (tCons (tVar 5) (tCons (tCB (rMax K) (tCons (tLc (iSeq K (tVar 3)) (gName 4) tYes (tOp (rIx K) (tVar 4) (tC (V.int 2))) [4]) tNil)) tNil))))))

def t__law_ends (K : PySem.W.Frag) : TS :=
  (tSeq (tAsg tDNewK (gName 1))
    (tSeq (tFor (iSeq K (tCall spWorths [] E0 (tCons (tVar 0) tNil))) (gName 2)
    (t__law_ends_1 K))
    (tRet (tVar 1))))

def t__law_pair_right (K : PySem.W.Frag) : TS :=
  (tSeq (tAsg (tAndV (tOp (rNeA K) (tVar 3) (tVar 4)) (tOp rLtI (tOp (rAddA K) (tOp (rIx K) (tDGet (tVar 1) (tVar 3)) (tC (V.int 0))) (tVar 2)) (tOp (rIx K) (tDGet (tVar 1) (tVar 4)) (tC (V.int 1))))) (gName 5))
    (tSeq (tIfS (tAnd (tTest (tOp (rEqA K) (tVar 3) (tC (V.int 0)))) (tAnd (tTest (tOp (rNeA K) (tVar 4) (tC (V.int 0)))) (tNot (tTr K (tVar 5)))))
    (tRet (tC (V.bl false))) tNext)
    (tSeq (tIfS (tTest (tOp (rNeA K) (tCB rRepr (tCons (tCall spIsBefore [] E0 (tCons (tVar 0) (tCons (tVar 2) (tCons (tVar 3) (tCons (tVar 4) tNil))))) tNil)) (tCB rRepr (tCons (tVar 5) tNil))))
    (tRet (tC (V.bl false))) tNext)
    (tSeq (tIfS (tTest (tOp (rNeA K) (tCB rRepr (tCons (tCallW spIsBefore (fun {α : Type} (us ws : List α) => [(ws.drop 3).head?, (ws.drop 2).head?, (ws.drop 1).head?, (ws.drop 0).head?].filterMap id) 4 E0 (tCons (tVar 4) (tCons (tVar 3) (tCons (tVar 2) (tCons (tVar 0) tNil))))) tNil)) (tCB rRepr (tCons (tVar 5) tNil))))
    (tRet (tC (V.bl false))) tNext)
    (tSeq (tIfS (tOr (tAnd (tTest (tOp (rInA K) (tC (V.int 0)) (tTup (tCons (tVar 3) (tCons (tVar 4) tNil))))) (tTest (tOp (rEqA K) (tVar 3) (tC (V.int 0))))) (tTest (tOp (rEqA K) (tVar 3) (tVar 4))))
    (tRet (tC (V.bl true))) tNext)
    (tSeq (tAsg (tLc (iEnA K (tCons (tVar 0) tNil)) (gTup K 2 (gCons (gName 7) (gCons (gName 8) gNil))) (tTest (tOp (rEqA K) (tOp (rIx K) (tVar 8) (tC (V.int 1))) (tVar 3))) (tVar 7) [7, 8]) (gName 6))
    (tSeq (tAsg (tLc (iEnA K (tCons (tVar 0) tNil)) (gTup K 2 (gCons (gName 7) (gCons (gName 8) gNil))) (tTest (tOp (rEqA K) (tOp (rIx K) (tVar 8) (tC (V.int 1))) (tVar 4))) (tVar 7) [7, 8]) (gName 9))
    (tRet (tOp (rEqA K) (tVar 5) (tCB (rAny K) (tCons (tLc (iSeq K (tVar 6)) (gName 10) tYes (tCB (rAny K) (tCons (tLc (iSeq K (tVar 9)) (gName 11) tYes (tCall spSurely [] E0 (tCons (tVar 0) (tCons (tVar 2) (tCons (tVar 10) (tCons (tVar 11) tNil))))) [11]) tNil)) [10]) tNil)))))))))))

def t__law_log_right_1 (K : PySem.W.Frag) : TS :=
  (tIfS (tNot (tB (tCB (rAll K) (tCons (tLc (iKeys (tVar 2)) (gName 5) tYes (tCall spPairR [] E0 (tCons (tVar 0) (tCons (tVar 2) (tCons (tVar 1) (tCons (tVar 4) (tCons (tVar 5) tNil)))))) [5]) tNil))))
    (tRet (tC (V.bl false))) tNext)

def t__law_log_right (K : PySem.W.Frag) : TS :=
  (tSeq (tAsg (tTup (tCons (tCall spEndsL [] E0 (tCons (tVar 0) tNil)) (tCons (tCB rRepr (tCons (tVar 0) tNil)) tNil))) (gTup K 2 (gCons (gName 2) (gCons (gName 3) gNil))))
    (tSeq (tLock (tFor (iKeys (tVar 2)) (gName 4)
    (t__law_log_right_1 K)))
    (tRet (tOp (rEqA K) (tCB rRepr (tCons (tVar 0) tNil)) (tVar 3)))))

def t6__law_right_1 (K : PySem.W.Frag) : TS :=
  (tIfS (tNot (tB (tCall spLogR [] E0 (tCons (tVar 3) (tCons (tVar 7) tNil)))))
    (tRet (tC (V.bl false))) tNext)

def t6__law_right_2 (K : PySem.W.Frag) : TS :=
  (tSeq (tPar 4 5 (tCons (tCall spDraw [] E0 (tCons (tVar 0) (tCons (tCB (rLen K) (tCons (tVar 3) tNil)) tNil))) (tCons (tCall spDraw [] E0 (tCons (tVar 0) (tCons (tCB (rLen K) (tCons (tVar 3) tNil)) tNil))) tNil)))
    (tSeq (tAsg (tCB rMax2 (tCons (tC (V.int 0)) (tCons (tOp rSubI (tOp (rIx K) (tOp (rIx K) (tVar 3) (tVar 4)) (tC (V.int 2))) (tOp (rIx K) (tOp (rIx K) (tVar 3) (tVar 5)) (tC (V.int 3)))) tNil))) (gName 6))
    (tFor (iTup K (tTup (tCons (tC (V.int 0)) (tCons (tVar 6) (tCons (tCB rMax2 (tCons (tC (V.int 0)) (tCons (tOp rSubI (tVar 6) (tC (V.int 1))) tNil))) (tCons (tOp (rMulA K) (tC (V.int 2)) (tVar 1)) (tCons (tOp rPowI (tC (V.int 10)) (tC (V.int 16))) tNil))))))) (gName 7)
    (t6__law_right_1 K))))

def t6__law_right_3 (K : PySem.W.Frag) : TS :=
  (tSeq (tAsg (tOp (rAddA K) (tCall (spAny K) [] E0 (tCons (tVar 0) (tCons (tLst (tCons (tCall spWild [] E0 (tCons (tVar 0) (tCons (tC (V.int 12)) (tCons (tC (V.int 14)) tNil)))) (tCons (tCall spTrue [] E0 (tCons (tVar 0) (tCons (tC (V.int 12)) (tCons (tC (V.int 2)) (tCons (tC (V.int 5)) tNil))))) tNil))) tNil))) (tTup (tCons (tTup (tCons (tC (V.str "read")) (tCons (tC (V.int 0)) (tCons (tUn rNegI (tVar 1)) (tCons (tVar 1) tNil))))) tNil))) (gName 3))
    (tSeq (tIfS (tTest (tOp (rEqA K) (tCall spDraw [] E0 (tCons (tVar 0) (tCons (tC (V.int 2)) tNil))) (tC (V.int 0))))
    (tAsg (tOp (rAddA K) (tVar 3) (tTup (tCons (tTup (tCons (tC (V.str "read")) (tCons (tC (V.int 0)) (tCons (tVar 1) (tCons (tVar 1) tNil))))) (tCons (tTup (tCons (tC (V.str "write")) (tCons (tOp rPowI (tC (V.int 10)) (tC (V.int 9))) (tCons (tUn rNegI (tVar 1)) (tCons (tUn rNegI (tVar 1)) tNil))))) tNil)))) (gName 3)) tNext)
    (t6__law_right_2 K)))

def t6__law_right (K : PySem.W.Frag) : TS :=
  (tSeq (tAsg (tOp rPowI (tC (V.int 10)) (tC (V.int 15))) (gName 1))
    (tSeq (tFor (iRng1 (tCons (tC (V.int 3)) tNil)) (gName 2)
    (t6__law_right_3 K))
    (tRet (tC (V.bl true)))))

/-- [te for slot i in a tuple], te an int of the operation -/
theorem lc_ops {K : PySem.W.Frag} {σ : LB.St} {H : Hp} {Q : VK} {t : Addr} {ops : List Op} {s i : Nat} {te : TE} {key : Op → V} (es : σ[s]? = some (some (.ref t))) (lg : LogAt H t ops) (few : ops.length ≤ 200)
    (he : ∀ (u : Addr) (o : Op) (H2 : Hp) (Q2 : VK), H2 u = some (opT o) → Q2 (key o) H2 → te ((σ.set i none).set i (some (.ref u))) H2 Q2)
    (q : ∀ (p : Addr) (H' : Hp), Keep NoS H H' → H p = none → H' p = some (.lst (ops.map key)) → Q (.ref p) H') : tLc (iSeq K (tVar s)) (gName i) tYes te [i] σ H Q := by
  obtain ⟨xs, hx, hl, hi⟩ := id lg
  refine .inr (w_var es ⟨t, rfl, ⟨xs, .inl (.inl hx)⟩, fun D hD => ?_⟩)
  refine lc_tup (xs := xs) (fun n H' => Keep NoS H H' ∧ H' D = some (.lst ((ops.take n).map key))) ⟨Keep.new hD, upd_same⟩ (fun n H' _ h => .inl (.inl (h.1.tup _ _ hx))) ?_ ?_
  · rintro n x H1 hn ⟨k1, hb⟩
    have ln : n < ops.length := by
      rw [← hl]
      by_cases z : n < xs.length
      · exact z
      · rw [List.getElem?_eq_none (by omega)] at hn; cases hn
    have ho : ops[n]? = some ops[n] := List.getElem?_eq_getElem ln
    obtain ⟨u, e1, e2⟩ := hi n _ ho
    rw [hn] at e1
    cases e1
    refine ⟨by show ((σ.set i none).set i _).set i none = σ.set i none; rw [List.set_set, List.set_set], ?_⟩
    simp only [tYes, if_true]
    refine he u ops[n] H1 _ (k1.tup _ _ e2) ⟨_, hb, ?_, k1.put0 hD hb, ?_⟩
    · rw [List.length_map, List.length_take]
      exact Nat.lt_of_le_of_lt (by omega : _ ≤ 1000) (by decide)
    · rw [List.take_add_one, ho, List.map_append]
      exact upd_same
  · rintro H1 ⟨k1, hb⟩
    rw [hl, List.take_length] at hb
    exact q D H1 k1 hD hb
theorem pure__law_worths {K : PySem.W.Frag} {vs : List V} {H : Hp} {Q : VK} {E : XK} (h : spWorths vs H Q E) : t__law_worths K { nx := fun _ H' => Q .non H', rt := Q } (start ["log", "one"] vs) H := by
  obtain ⟨t, ops, rfl, lg, few, q⟩ := h
  show t__law_worths K _ [some (.ref t), none] H
  unfold t__law_worths
  walk_at "ws_12"
  refine lc_ops (t := t) (ops := ops) (key := fun o => .int o.v) (by with_unfolding_all rfl) lg few (fun u o H2 Q2 hu q2 => w_op (w_var (by with_unfolding_all rfl) (w_c (o_ixt (n := 1) hu rfl q2)))) fun p H1 k1 zp hp => ?_
  refine ⟨p, ops.map (·.v), rfl, .inl (.inl (by rw [hp, List.map_map]; rfl)), by rw [List.length_map]; omega, fun ms p2 H2 asc mem nw => ?_⟩
  have e : ms = vals ops := asc_eq asc (vals_asc ops) fun k => by rw [mem, vals_mem]
  subst e
  exact q p2 H2 (k1.trans nw.keep) (free_of k1 id nw.no) nw.at_
theorem min_first {ops : List Op} {v : Int} (hv : v ∈ vals ops) {ms : List Int} (e : ms = (ops.filter fun o => decide (o.v = v)).map (·.e)) {m : Int} (hm : m ∈ ms) (hl : ∀ y ∈ ms, m ≤ y) : m = firstE ops v := by
  subst e
  obtain ⟨q, b⟩ := bE_best hv
  have h1 : firstE ops v ∈ (ops.filter fun o => decide (o.v = v)).map (·.e) := by
    rw [firstE_is b]
    exact List.mem_map.mpr ⟨q, List.mem_filter.mpr ⟨List.mem_of_getElem? b.at_, by simpa using b.val⟩, rfl⟩
  have h2 := hl _ h1
  obtain ⟨o, ho, rfl⟩ := List.mem_map.mp hm
  obtain ⟨ho1, ho2⟩ := List.mem_filter.mp ho
  obtain ⟨i, hi, ei⟩ := List.mem_iff_getElem.mp ho1
  have h3 := firstE_le (ops := ops) (v := v) (i := i) (o := o) (by rw [List.getElem?_eq_getElem hi, ei]) (by simpa using ho2)
  omega
theorem max_last {ops : List Op} {v : Int} (hv : v ∈ vals ops) {ms : List Int} (e : ms = (ops.filter fun o => decide (o.v = v)).map (·.b)) {m : Int} (hm : m ∈ ms) (hl : ∀ y ∈ ms, y ≤ m) : m = lastB ops v := by
  subst e
  obtain ⟨q, b⟩ := bB_best hv
  have h1 : lastB ops v ∈ (ops.filter fun o => decide (o.v = v)).map (·.b) := by
    rw [lastB_is b]
    exact List.mem_map.mpr ⟨q, List.mem_filter.mpr ⟨List.mem_of_getElem? b.at_, by simpa using b.val⟩, rfl⟩
  have h2 := hl _ h1
  obtain ⟨o, ho, rfl⟩ := List.mem_map.mp hm
  obtain ⟨ho1, ho2⟩ := List.mem_filter.mp ho
  obtain ⟨i, hi, ei⟩ := List.mem_iff_getElem.mp ho1
  have h3 := lastB_ge (ops := ops) (v := v) (i := i) (o := o) (by rw [List.getElem?_eq_getElem hi, ei]) (by simpa using ho2)
  omega
/-- a list of operations in the heap -/
def OpsL (H : Hp) (a : Addr) (ops : List Op) : Prop := ∃ xs : List V, H a = some (.lst xs) ∧ xs.length = ops.length ∧ ∀ (i : Nat) (o : Op), ops[i]? = some o → ∃ u, xs[i]? = some (.ref u) ∧ H u = some (opT o)
/-- [te for slot i in a list of operations] -/
theorem lc_opsL {K : PySem.W.Frag} {σ : LB.St} {H : Hp} {Q : VK} {t : Addr} {ops : List Op} {s i : Nat} {te : TE} {key : Op → V} (es : σ[s]? = some (some (.ref t))) (lg : OpsL H t ops) (few : ops.length ≤ 200)
    (he : ∀ (u : Addr) (o : Op) (H2 : Hp) (Q2 : VK), H2 u = some (opT o) → Q2 (key o) H2 → te ((σ.set i none).set i (some (.ref u))) H2 Q2)
    (q : ∀ (p : Addr) (H' : Hp), Keep NoS H H' → H p = none → H' p = some (.lst (ops.map key)) → Q (.ref p) H') : tLc (iSeq K (tVar s)) (gName i) tYes te [i] σ H Q := by
  obtain ⟨xs, hx, hl, hi⟩ := id lg
  refine .inl (w_var es ⟨t, rfl, ⟨xs, .inl (.inl hx)⟩, fun D hD => ?_⟩)
  refine lc_list (xs := xs) (fun n H' => Keep NoS H H' ∧ H' D = some (.lst ((ops.take n).map key))) ⟨Keep.new hD, upd_same⟩ (fun n H' _ h => .inl (.inl (h.1.all _ _ id hx))) ?_ ?_
  · rintro n x H1 hn ⟨k1, hb⟩
    have ln : n < ops.length := by
      rw [← hl]
      by_cases z : n < xs.length
      · exact z
      · rw [List.getElem?_eq_none (by omega)] at hn; cases hn
    have ho : ops[n]? = some ops[n] := List.getElem?_eq_getElem ln
    obtain ⟨u, e1, e2⟩ := hi n _ ho
    rw [hn] at e1
    cases e1
    refine ⟨by show ((σ.set i none).set i _).set i none = σ.set i none; rw [List.set_set, List.set_set], ?_⟩
    simp only [tYes, if_true]
    refine he u ops[n] H1 _ (k1.tup _ _ e2) ⟨_, hb, ?_, k1.put0 hD hb, ?_⟩
    · rw [List.length_map, List.length_take]
      exact Nat.lt_of_le_of_lt (by omega : _ ≤ 1000) (by decide)
    · rw [List.take_add_one, ho, List.map_append]
      exact upd_same
  · rintro H1 ⟨k1, hb⟩
    rw [hl, List.take_length] at hb
    exact q D H1 k1 hD hb
/-- [o for slot i in a log if o[1] == slot k] -/
theorem lc_own {K : PySem.W.Frag} {σ : LB.St} {H : Hp} {Q : VK} {t : Addr} {ops : List Op} {s i k : Nat} {v : Int} (es : σ[s]? = some (some (.ref t))) (ek : σ[k]? = some (some (.int v))) (n1 : k ≠ i) (li : i < σ.length) (lg : LogAt H t ops) (few : ops.length ≤ 200)
    (q : ∀ (p : Addr) (H' : Hp), Keep NoS H H' → H p = none → OpsL H' p (ops.filter fun o => decide (o.v = v)) → Q (.ref p) H') : tLc (iSeq K (tVar s)) (gName i) (tTest (tOp (rEqA K) (tOp (rIx K) (tVar i) (tC (V.int 1))) (tVar k))) (tVar i) [i] σ H Q := by
  obtain ⟨xs, hx, hl, hi⟩ := id lg
  refine .inr (w_var es ⟨t, rfl, ⟨xs, .inl (.inl hx)⟩, fun D hD => ?_⟩)
  refine lc_tup (xs := xs) (fun n H' => Keep NoS H H' ∧ OpsL H' D ((ops.take n).filter fun o => decide (o.v = v))) ⟨Keep.new hD, [], upd_same, rfl, fun i o e => by simp at e⟩ (fun n H' _ h => .inl (.inl (h.1.tup _ _ hx))) ?_ ?_
  · rintro n x H1 hn ⟨k1, ys, hb, hyl, hy⟩
    have ln : n < ops.length := by
      rw [← hl]
      by_cases z : n < xs.length
      · exact z
      · rw [List.getElem?_eq_none (by omega)] at hn; cases hn
    have ho : ops[n]? = some ops[n] := List.getElem?_eq_getElem ln
    obtain ⟨u, e1, e2⟩ := hi n _ ho
    rw [hn] at e1
    cases e1
    refine ⟨by show ((σ.set i none).set i _).set i none = σ.set i none; rw [List.set_set, List.set_set], ?_⟩
    have hu := k1.tup _ _ e2
    have g1 : ((σ.set i none).set i (some (V.ref u)))[i]? = some (some (V.ref u)) := by simp [li]
    have g2 : ((σ.set i none).set i (some (V.ref u)))[k]? = some (some (V.int v)) := by
      rw [List.getElem?_set_ne (Ne.symm n1), List.getElem?_set_ne (Ne.symm n1)]
      exact ek
    refine w_test (w_op (w_op (w_var g1 (w_c (o_ixt (n := 1) hu rfl (w_var g2 ?_))))))
    refine o_eqs rfl ⟨_, rfl, ?_⟩
    rw [show decide (V.int ops[n].v = V.int v) = decide (ops[n].v = v) by simp]
    have et : (ops.take (n + 1)).filter (fun o => decide (o.v = v)) = (ops.take n).filter (fun o => decide (o.v = v)) ++ (if ops[n].v = v then [ops[n]] else []) := by
      rw [List.take_add_one, ho, List.filter_append]
      by_cases c : ops[n].v = v <;> simp [c]
    refine w_ite (fun c => ?_) (fun c => ?_)
    · refine w_var g1 ⟨_, hb, ?_, k1.put0 hD hb, ys ++ [.ref u], upd_same, ?_, ?_⟩
      · have := List.length_filter_le (fun o : Op => decide (o.v = v)) (ops.take n)
        rw [List.length_take] at this
        exact Nat.lt_of_le_of_lt (by omega : _ ≤ 1000) (by decide)
      · rw [et, if_pos c, List.length_append, List.length_append, hyl]
        rfl
      · intro m o em
        rw [et, if_pos c] at em
        have nD : ∀ w, H1 w = some (opT o) → w ≠ D := fun w hw z => by rw [z, hb] at hw; cases hw
        by_cases lm : m < ys.length
        · rw [List.getElem?_append_left (by omega)] at em
          obtain ⟨w, a1, a2⟩ := hy m o em
          exact ⟨w, by rw [List.getElem?_append_left lm]; exact a1, by rw [upd_ne (nD w a2)]; exact a2⟩
        · rw [List.getElem?_append_right (by omega)] at em
          by_cases z : m = ys.length
          · subst z
            rw [show ys.length - ((ops.take n).filter fun o => decide (o.v = v)).length = 0 by omega] at em
            have em : ops[n] = o := Option.some.inj em
            subst em
            exact ⟨u, by rw [List.getElem?_append_right (by omega)]; simp, by rw [upd_ne (nD u hu)]; exact hu⟩
          · rw [List.getElem?_eq_none (by simp; omega)] at em
            cases em
    · refine ⟨k1, ys, hb, by rw [et, if_neg c, List.append_nil]; exact hyl, fun m o em => ?_⟩
      rw [et, if_neg c, List.append_nil] at em
      exact hy m o em
  · rintro H1 ⟨k1, ol⟩
    rw [hl, List.take_length] at ol
    exact q D H1 k1 hD ol
theorem pure__law_ends {K : PySem.W.Frag} {vs : List V} {H : Hp} {Q : VK} {E : XK} (h : spEndsL vs H Q E) : t__law_ends K { nx := fun _ H' => Q .non H', rt := Q } (start ["book", "found", "worth", "own", "left", "first"] vs) H := by
  obtain ⟨t, ops, rfl, lg, few, q⟩ := h
  show t__law_ends K _ [some (.ref t), none, none, none, none, none] H
  unfold t__law_ends
  walk_at "ws_12"
  refine w_dnew fun d H1 n1 => ?_
  walk_at "ws_12"
  refine w_forSl ?_
  walk_at "ws_12"
  refine ⟨t, ops, rfl, lg.keep n1.keep (S := NoS), few, fun p H2 k2 zp hp => ?_⟩
  have pd : p ≠ d := fun z => by rw [z, n1.at_] at zp; cases zp
  refine k_Fl hp (fun n σ H' => (∃ x2 x3 x4 x5, σ = [some (.ref t), some (.ref d), x2, x3, x4, x5]) ∧ Keep NoS H H' ∧ H' p = some (.lst ((vals ops).map V.int)) ∧ ∃ f : Int → V, H' d = some (.dK (mkD ((vals ops).take n) f)) ∧ ∀ v ∈ (vals ops).take n, ∃ u, f v = .ref u ∧ H' u = some (.tup [.int (fstL ops v), .int (lastB ops v)]))
    ⟨⟨_, _, _, _, rfl⟩, n1.keep.trans k2, hp, fun _ => .non, k2.all _ _ id n1.at_, fun v hv => by simp at hv⟩ (fun n σ H' _ h => h.2.2.1) ?_ ?_
  · rintro n x σ H3 hn ⟨⟨x2, x3, x4, x5, rfl⟩, k3, hp3, f, hf, hv⟩
    rw [List.getElem?_map] at hn
    obtain ⟨v, ev, rfl⟩ := Option.map_eq_some_iff.mp hn
    have hvv : v ∈ vals ops := List.mem_of_getElem? ev
    walk_at "ws_12"
    unfold t__law_ends_1
    walk_at "ws_12"
    refine lc_own (t := t) (v := v) (by with_unfolding_all rfl) (by with_unfolding_all rfl) (by decide) (by simp) (lg.keep k3) few fun o H4 k4 zo ol => ?_
    have fl : (ops.filter fun o => decide (o.v = v)).length ≤ 200 := Nat.le_trans (List.length_filter_le _ _) few
    have fpos : 0 < (ops.filter fun o => decide (o.v = v)).length := by
      obtain ⟨i, q0, h1, h2⟩ := vals_at.mp hvv
      exact List.length_pos_of_mem (List.mem_filter.mpr ⟨List.mem_of_getElem? h1, by simpa using h2⟩)
    walk_at "ws_12"
    have tail : ∀ (m : Int) (H5 : Hp) (D0 : Ends), m = fstL ops v → Keep NoS H4 H5 → (D0.nx = fun σ H' => (∃ x2 x3 x4 x5, σ = [some (.ref t), some (.ref d), x2, x3, x4, x5]) ∧ Keep NoS H H' ∧ H' p = some (.lst ((vals ops).map V.int)) ∧ ∃ f : Int → V, H' d = some (.dK (mkD ((vals ops).take (n + 1)) f)) ∧ ∀ v ∈ (vals ops).take (n + 1), ∃ u, f v = .ref u ∧ H' u = some (.tup [.int (fstL ops v), .int (lastB ops v)])) →
        (sDPut (tVar 1) (tVar 2) (tTup (tCons (tVar 5) (tCons (tCB (rMax K) (tCons (tLc (iSeq K (tVar 3)) (gName 4) tYes (tOp (rIx K) (tVar 4) (tC (V.int 2))) [4]) tNil)) tNil)))) D0 [some (.ref t), some (.ref d), some (.int v), some (.ref o), x4, some (.int m)] H5 := by
      intro m H5 D0 em k5 eD
      obtain ⟨ys, y1, y2, y3⟩ := ol
      have ol5 : OpsL H5 o (ops.filter fun o => decide (o.v = v)) := ⟨ys, k5.all _ _ id y1, y2, fun i o e => by obtain ⟨u, a, b⟩ := y3 i o e; exact ⟨u, a, k5.tup _ _ b⟩⟩
      refine w_dput ?_
      walk_at "ws_12"
      refine lc_opsL (t := o) (key := fun o => .int o.b) (by with_unfolding_all rfl) ol5 fl (fun u o H2 Q2 hu q2 => w_op (w_var (by with_unfolding_all rfl) (w_c (o_ixt (n := 2) hu rfl q2)))) fun b H6 k6 zb hb => ?_
      walk_at "ws_12"
      refine ⟨b, (ops.filter fun o => decide (o.v = v)).map (·.b), rfl, .inl (.inl (by rw [hb, List.map_map]; rfl)), by rw [List.length_map]; exact fpos, fun mx hm1 hm2 => ?_⟩
      have e2 := max_last hvv rfl hm1 hm2
      subst e2
      walk_at "ws_12"
      refine k_tup (by simp; decide) fun u H7 n7 => ?_
      have k37 : Keep NoS H3 H7 := ((k4.trans k5).trans k6).trans n7.keep
      have hf7 := k37.all _ _ id hf
      have lt1 : ((vals ops).take n).length ≤ 1000 := by rw [List.length_take]; have := vals_len ops; omega
      walk_at "ws_12"
      refine o_dput hf7 lt1 ?_
      rw [eD]
      have nv : v ∉ (vals ops).take n := fun z => by
        have h0 := (List.getElem?_eq_some_iff.mp ev)
        obtain ⟨hn', en⟩ := h0
        have pw := vals_asc ops
        rw [← List.take_append_drop n (vals ops)] at pw
        have h1 := (List.pairwise_append.mp pw).2.2 v z v (by rw [List.mem_iff_getElem?]; exact ⟨0, by rw [List.getElem?_drop]; simpa using ev⟩)
        omega
      refine ⟨⟨_, _, _, _, rfl⟩, (k3.trans k37).putO (o := .lst []) n1.no, by rw [upd_ne pd]; exact k37.all _ _ id hp3, fun w => if w = v then .ref u else f w, ?_, ?_⟩
      · rw [upd_same, mkD_put, if_neg nv, List.take_add_one, ev]
        rfl
      · intro w hw
        rw [List.take_add_one, ev] at hw
        have ud : u ≠ d := fun z => by have := n7.no; rw [z, ((k4.trans k5).trans k6).all _ _ id hf] at this; cases this
        by_cases z : w = v
        · subst z
          exact ⟨u, if_pos rfl, by rw [upd_ne ud, n7.at_, em]⟩
        · simp only [Option.toList_some, List.mem_append, List.mem_singleton, z, or_false] at hw
          obtain ⟨u0, c1, c2⟩ := hv w hw
          refine ⟨u0, (if_neg z).trans c1, ?_⟩
          rw [upd_ne (fun y => by rw [y, hf] at c2; cases c2)]
          exact k37.tup _ _ c2
    refine w_ite (fun c => ?_) (fun c => ?_)
    · walk_at "ws_12"
      refine lc_opsL (t := o) (key := fun o => .int o.e) (by with_unfolding_all rfl) ol fl (fun u o H2 Q2 hu q2 => w_op (w_var (by with_unfolding_all rfl) (w_c (o_ixt (n := 3) hu rfl q2)))) fun b H6 k6 zb hb => ?_
      walk_at "ws_12"
      refine ⟨b, (ops.filter fun o => decide (o.v = v)).map (·.e), rfl, .inl (.inl (by rw [hb, List.map_map]; rfl)), by rw [List.length_map]; exact fpos, fun mx hm1 hm2 => ?_⟩
      have e2 := min_first hvv rfl hm1 hm2
      walk_at "ws_12"
      exact tail mx H6 _ (by rw [e2]; unfold fstL; rw [if_pos c]) k6 rfl
    · walk_at "ws_12"
      refine o_pow ⟨by decide, by decide +kernel⟩ ?_
      walk_at "ws_12"
      exact tail _ H4 _ (by unfold fstL; rw [if_neg c]; decide +kernel) (Keep.refl _ _) rfl
  · rintro σ H3 ⟨⟨x2, x3, x4, x5, rfl⟩, k3, hp3, f, hf, hv⟩
    rw [List.length_map, List.take_length] at hf hv
    walk_at "ws_12"
    exact q d H3 f k3 n1.no hf ⟨f, .inl hf, hv⟩

theorem vals_ok {ops : List Op} (ok : ∀ o ∈ ops, o.ok) {v : Int} (hv : v ∈ vals ops) : 0 ≤ v ∧ (-1000000000000000 ≤ firstE ops v ∧ firstE ops v ≤ 1000000000000000) ∧ -1000000000000000 ≤ lastB ops v ∧ lastB ops v ≤ 1000000000000000 := by
  obtain ⟨q, b⟩ := bE_best hv
  obtain ⟨q2, b2⟩ := bB_best hv
  have h1 := ok q (List.mem_of_getElem? b.at_)
  have h2 := ok q2 (List.mem_of_getElem? b2.at_)
  rw [firstE_is b, lastB_is b2]
  have := b.val
  unfold Op.ok at h1 h2
  omega
theorem o_inIntsT {K : PySem.W.Frag} {H : Hp} {Q : VK} {a : Addr} {ws : List Int} {z : Int} (e : H a = some (.tup (ws.map V.int))) (q : Q (.bl (decide (z ∈ ws))) H) : rInA K (.int z) (.ref a) H Q :=
  .inl ⟨a, _, rfl, .inr (.inl (.inl e)), rfl, flat_ints, by rw [if_neg (by decide), inV_ints]; exact q⟩
theorem truB {K : PySem.W.Frag} {H : Hp} {b : Bool} : TruV K (.bl b) H b := by
  unfold TruV
  first
    | exact .inl rfl
    | exact .inl ⟨_, rfl, rfl⟩
    | simp
/-- the law's own word of two values -/
def dueL (ops : List Op) (tol u v : Int) : Bool := if u = v then false else decide (fstL ops u + tol < lastB ops v)
theorem due_is {ops : List Op} (ok : ∀ o ∈ ops, o.ok) {tol u v : Int} (hu : u ∈ vals ops) (hv : v ∈ vals ops) (h1 : tol ≤ 10000000000000000) : dueL ops tol u v = isBef ops tol u v := by
  unfold dueL isBef befV spanF spBef fstL
  have := vals_ok ok hu
  have := vals_ok ok hv
  by_cases e : u = v
  · rw [if_pos e, if_pos e]
  · rw [if_neg e, if_neg e]
    by_cases z : u = 0
    · rw [if_neg (by omega), if_pos z]
      exact decide_eq_true (by omega)
    · rw [if_pos (by omega), if_neg z]
theorem sure_any {ops : List Op} {tol u v : Int} (hu : u ∈ vals ops) (hv : v ∈ vals ops) (z : ¬ u = 0) (e : ¬ u = v) : ((idxOf ops u).map fun a => ((idxOf ops v).map fun b => sureB ops tol a b).any id).any id = isBef ops tol u v := by
  unfold isBef befV spanF spBef
  rw [if_neg e, if_neg z]
  rw [Bool.eq_iff_iff, List.any_eq_true]
  constructor
  · rintro ⟨x, hx, hx2⟩
    obtain ⟨a, ha, rfl⟩ := List.mem_map.mp hx
    have hx2 : (((idxOf ops v).map fun b => sureB ops tol a b).any id) = true := hx2
    rw [List.any_eq_true] at hx2
    obtain ⟨y, hy, hy2⟩ := hx2
    obtain ⟨b, hb, rfl⟩ := List.mem_map.mp hy
    obtain ⟨o, ho, eo⟩ := idx_mem.mp ha
    obtain ⟨q, hq, eq⟩ := idx_mem.mp hb
    have hy2 : sureB ops tol a b = true := hy2
    unfold sureB at hy2
    rw [ho, hq] at hy2
    have := of_decide_eq_true hy2
    have := firstE_le ho eo
    have := lastB_ge hq eq
    exact decide_eq_true (by omega)
  · intro h
    have h := of_decide_eq_true h
    obtain ⟨q1, b1⟩ := bE_best hu
    obtain ⟨q2, b2⟩ := bB_best hv
    rw [firstE_is b1, lastB_is b2] at h
    refine ⟨_, List.mem_map.mpr ⟨bE ops u, idx_mem.mpr ⟨q1, b1.at_, b1.val⟩, rfl⟩, ?_⟩
    show (List.any _ id) = true
    rw [List.any_eq_true]
    refine ⟨_, List.mem_map.mpr ⟨bB ops v, idx_mem.mpr ⟨q2, b2.at_, b2.val⟩, rfl⟩, ?_⟩
    show sureB ops tol _ _ = true
    unfold sureB
    rw [b1.at_, b2.at_]
    exact decide_eq_true h
theorem zero_ne {ops : List Op} (ok : ∀ o ∈ ops, o.ok) {tol v : Int} (h0 : (0 : Int) ∈ vals ops) (hv : v ∈ vals ops) (e : ¬ v = 0) (h1 : tol ≤ 10000000000000000) : dueL ops tol 0 v = true := by
  rw [due_is ok h0 hv h1]
  unfold isBef befV spanF spBef
  rw [if_neg (fun z => e z.symm), if_pos rfl]
theorem pure__law_pair_right {K : PySem.W.Frag} {vs : List V} {H : Hp} {Q : VK} {E : XK} (h : spPairR vs H Q E) : t__law_pair_right K { nx := fun _ H' => Q .non H', rt := Q } (start ["book", "ends", "slack", "left", "right", "due", "own", "at", "call", "its", "a", "b"] vs) H := by
  obtain ⟨t, d, ops, tol, u, v, rfl, lg, few, ok, ea, t0, t1, hu, hv, q⟩ := h
  show t__law_pair_right K _ [some (.ref t), some (.ref d), some (.int tol), some (.int u), some (.int v), none, none, none, none, none, none, none] H
  unfold t__law_pair_right
  walk_at "ws_12"
  have e0 : (!decide (V.int u = V.int v)) = !decide (u = v) := by simp
  rw [e0]
  -- due
  have due : ∀ (R : VK), R (.bl (dueL ops tol u v)) H → (if (!decide (u = v)) = true then (tOp rLtI (tOp (rAddA K) (tOp (rIx K) (tDGet (tVar 1) (tVar 3)) (tC (V.int 0))) (tVar 2)) (tOp (rIx K) (tDGet (tVar 1) (tVar 4)) (tC (V.int 1)))) [some (.ref t), some (.ref d), some (.int tol), some (.int u), some (.int v), none, none, none, none, none, none, none] H R else R (.bl false) H) := by
    intro R hR
    unfold dueL at hR
    refine w_iteb (fun c => ?_) (fun c => ?_)
    · have ne : ¬ u = v := by simpa using c
      rw [if_neg ne] at hR
      obtain ⟨w1, g1, h1⟩ := ea.get hu
      obtain ⟨w2, g2, h2⟩ := ea.get hv
      walk_at "ws_12"
      refine w_dget ?_
      walk_at "ws_12"
      refine o_dgetS g1 ?_
      walk_at "ws_12"
      refine w_dget ?_
      walk_at "ws_12"
      refine o_dgetS g2 ?_
      walk_at "ws_12"
      exact hR
    · have ne : u = v := by simpa using c
      rw [if_pos ne] at hR
      exact hR
  refine due _ ?_
  have eD := due_is ok hu hv t1
  generalize hD : dueL ops tol u v = D at *
  have key : ∀ (X6 X7 X8 X9 X10 X11 : Option V) (Qb : Bool → Hp → Prop), Qb false H → (if decide (u = 0) = true then (tAnd (tTest (tOp (rNeA K) (tVar 4) (tC (V.int 0)))) (tNot (tTr K (tVar 5)))) [some (.ref t), some (.ref d), some (.int tol), some (.int u), some (.int v), some (.bl D), X6, X7, X8, X9, X10, X11] H Qb else Qb false H) := by
    intro X6 X7 X8 X9 X10 X11 Qb hq
    refine w_ite (fun z => ?_) (fun _ => hq)
    subst z
    walk_at "ws_12"
    have e2 : (!decide (V.int v = V.int 0)) = !decide (v = 0) := by simp
    rw [e2]
    refine w_iteb (fun c => ?_) (fun _ => hq)
    have ne : ¬ v = 0 := by simpa using c
    have hT := zero_ne ok hu hv ne t1
    rw [hD] at hT
    subst hT
    walk_at "ws_12"
    refine w_var (by with_unfolding_all rfl) ⟨true, truB, ?_⟩
    exact hq
  walk_at "ws_12"
  rw [show decide (V.int u = V.int 0) = decide (u = 0) by simp]
  refine key _ _ _ _ _ _ _ ?_
  refine w_iteF rfl ?_
  walk_at "ws_12"
  refine ⟨t, ops, tol, u, v, rfl, lg, few, hu, hv, fun H1 k1 => ?_⟩
  rw [← eD]
  walk_at "ws_12"
  refine o_reprB ?_
  walk_at "ws_12"
  refine o_reprB ?_
  walk_at "ws_12"
  refine w_iteF (by simp) ?_
  walk_at "ws_12"
  refine w_callW ?_
  walk_at "ws_12"
  refine ⟨rfl, t, ops, tol, u, v, rfl, lg.keep k1, few, hu, hv, fun H2 k2 => ?_⟩
  rw [← eD]
  walk_at "ws_12"
  refine o_reprB ?_
  walk_at "ws_12"
  refine o_reprB ?_
  walk_at "ws_12"
  refine w_iteF (by simp) ?_
  refine w_next ?_
  with_reducible refine w_seq ?_
  with_reducible refine w_ifs ?_
  have k12 := k1.trans k2
  -- the three that need no look
  have key2 : ∀ (X6 X7 X8 X9 X10 X11 : Option V) (Qb : Bool → Hp → Prop), (∀ H', Keep NoS H2 H' → (u = 0 ∨ u = v) → Qb true H') → (∀ H', Keep NoS H2 H' → ¬ u = 0 → ¬ u = v → Qb false H') →
      (tOr (tAnd (tTest (tOp (rInA K) (tC (V.int 0)) (tTup (tCons (tVar 3) (tCons (tVar 4) tNil))))) (tTest (tOp (rEqA K) (tVar 3) (tC (V.int 0))))) (tTest (tOp (rEqA K) (tVar 3) (tVar 4)))) [some (.ref t), some (.ref d), some (.int tol), some (.int u), some (.int v), some (.bl D), X6, X7, X8, X9, X10, X11] H2 Qb := by
    intro X6 X7 X8 X9 X10 X11 Qb h1 h2
    walk_at "ws_12"
    refine k_tup (by simp; decide) fun T H3 n3 => ?_
    refine o_inIntsT (ws := [u, v]) n3.at_ ?_
    walk_at "ws_12"
    have last : ∀ Qb2 : Bool → Hp → Prop, (u = v → Qb2 true H3) → (¬ u = v → Qb2 false H3) → (tTest (tOp (rEqA K) (tVar 3) (tVar 4))) [some (.ref t), some (.ref d), some (.int tol), some (.int u), some (.int v), some (.bl D), X6, X7, X8, X9, X10, X11] H3 Qb2 := by
      intro Qb2 g1 g2
      walk_at "ws_12"
      rw [show decide (V.int u = V.int v) = decide (u = v) by simp]
      by_cases c : u = v
      · rw [decide_eq_true c]; exact g1 c
      · rw [decide_eq_false c]; exact g2 c
    refine w_iteb (fun c => ?_) (fun c => ?_)
    · walk_at "ws_12"
      rw [show decide (V.int u = V.int 0) = decide (u = 0) by simp]
      by_cases z : u = 0
      · rw [decide_eq_true z]
        exact w_iteT rfl (h1 H3 n3.keep (.inl z))
      · rw [decide_eq_false z]
        exact w_iteF rfl (last _ (fun e => h1 H3 n3.keep (.inr e)) fun e => h2 H3 n3.keep z e)
    · have z : ¬ u = 0 := fun z => by simp [z] at c
      exact w_iteF rfl (last _ (fun e => h1 H3 n3.keep (.inr e)) fun e => h2 H3 n3.keep z e)
  refine key2 _ _ _ _ _ _ _ (fun H3 k3 z => ?_) (fun H3 k3 z1 z2 => ?_)
  · refine w_iteT rfl ?_
    walk_at "ws_12"
    exact q H3 (k12.trans k3)
  refine w_iteF rfl ?_
  walk_at "ws_12"
  have lg3 := (lg.keep k12).keep k3
  refine lc_idx (t := t) (v := u) (by with_unfolding_all rfl) (by with_unfolding_all rfl) lg3 (by decide) (by decide) (by decide) (by simp) (by simp) few fun o H4 k4 zo ho => ?_
  walk_at "ws_12"
  refine lc_idx (t := t) (v := v) (by with_unfolding_all rfl) (by with_unfolding_all rfl) (lg3.keep k4) (by decide) (by decide) (by decide) (by simp) (by simp) few fun i H5 k5 zi hi => ?_
  walk_at "ws_12"
  have ho5 := k5.all _ _ id ho
  have lg5 := (lg3.keep k4).keep k5
  have il : ∀ w, (idxOf ops w).length ≤ 200 := fun w => Nat.le_trans idxN_len few
  have idlt : ∀ {w : Int} {n m : Nat}, (idxOf ops w)[n]? = some m → m < ops.length := fun {w n m} h => by
    obtain ⟨q0, h1, _⟩ := idx_mem.mp (List.mem_of_getElem? h)
    by_cases z : m < ops.length
    · exact z
    · rw [List.getElem?_eq_none (by omega)] at h1; cases h1
  refine .inl (w_var (by with_unfolding_all rfl) ⟨o, rfl, ⟨_, .inl (.inl ho5)⟩, fun D1 hD1 => ?_⟩)
  refine lc_list (xs := (idxOf ops u).map fun n => V.int (n : Nat)) (fun n H' => Keep NoS H5 H' ∧ H' D1 = some (.lst ((((idxOf ops u).take n).map fun a => ((idxOf ops v).map fun b => sureB ops tol a b).any id).map V.bl))) ⟨Keep.new hD1, upd_same⟩ (fun n H' _ h => .inl (.inl (h.1.all _ _ id ho5))) ?_ ?_
  · rintro n x H6 hn ⟨k6, hb⟩
    rw [List.getElem?_map] at hn
    obtain ⟨a, ha, rfl⟩ := Option.map_eq_some_iff.mp hn
    refine ⟨rfl, ?_⟩
    simp only [tYes, if_true]
    have hi6 := k6.all _ _ id hi
    walk_at "ws_12"
    refine .inl (w_var (by with_unfolding_all rfl) ⟨i, rfl, ⟨_, .inl (.inl hi6)⟩, fun D2 hD2 => ?_⟩)
    refine lc_list (xs := (idxOf ops v).map fun n => V.int (n : Nat)) (fun n H' => Keep NoS H6 H' ∧ H' D2 = some (.lst ((((idxOf ops v).take n).map fun b => sureB ops tol a b).map V.bl))) ⟨Keep.new hD2, upd_same⟩ (fun n H' _ h => .inl (.inl (h.1.all _ _ id hi6))) ?_ ?_
    · rintro m y H7 hm ⟨k7, hb7⟩
      rw [List.getElem?_map] at hm
      obtain ⟨b, hb2, rfl⟩ := Option.map_eq_some_iff.mp hm
      refine ⟨rfl, ?_⟩
      simp only [tYes, if_true]
      walk_at "ws_12"
      refine ⟨t, ops, tol, a, b, rfl, (lg5.keep k6).keep k7, idlt ha, idlt hb2, fun H8 k8 => ?_⟩
      have hb8 := k8.all _ _ id hb7
      refine ⟨_, hb8, ?_, (k7.trans k8).put0 hD2 hb8, ?_⟩
      · rw [List.length_map, List.length_map, List.length_take]
        have := il v
        exact Nat.lt_of_le_of_lt (by omega : _ ≤ 1000) (by decide)
      · rw [take_snoc hb2, List.map_append, List.map_append]
        exact upd_same
    · rintro H7 ⟨k7, hb7⟩
      rw [List.length_map, List.take_length] at hb7
      walk_at "ws_12"
      refine ⟨D2, _, rfl, .inl (.inl hb7), ?_⟩
      have hb8 := k7.all _ _ id hb
      refine ⟨_, hb8, ?_, (k6.trans k7).put0 hD1 hb8, ?_⟩
      · rw [List.length_map, List.length_map, List.length_take]
        have := il u
        exact Nat.lt_of_le_of_lt (by omega : _ ≤ 1000) (by decide)
      · rw [take_snoc ha, List.map_append, List.map_append]
        exact upd_same
  · rintro H6 ⟨k6, hb⟩
    rw [List.length_map, List.take_length] at hb
    walk_at "ws_12"
    refine ⟨D1, _, rfl, .inl (.inl hb), ?_⟩
    rw [sure_any hu hv z1 z2, ← eD]
    walk_at "ws_12"
    have e9 : decide (V.bl D = V.bl D) = true := by simp
    rw [e9]
    exact q H6 (((k12.trans k3).trans (k4.trans k5)).trans k6)
theorem EndsAt.of_f {S : Addr → Prop} {H H' : Hp} {d : Addr} {ops : List Op} {f : Int → V} {od : Obj} (h2 : ∀ v ∈ vals ops, ∃ t, f v = .ref t ∧ H t = some (.tup [.int (fstL ops v), .int (lastB ops v)])) (k : Keep S H H') (e : H' d = some (.frz od (.dK (mkD (vals ops) f)))) : EndsAt H' d ops :=
  ⟨f, .inr ⟨od, e⟩, fun v hv => by obtain ⟨t, a, b⟩ := h2 v hv; exact ⟨t, a, k.tup _ _ b⟩⟩
theorem all_true {n : Nat} : (List.replicate n true).all id = true := by simp
theorem pure__law_log_right {K : PySem.W.Frag} {vs : List V} {H : Hp} {Q : VK} {E : XK} (h : spLogR vs H Q E) : t__law_log_right K { nx := fun _ H' => Q .non H', rt := Q } (start ["book", "slack", "ends", "kept", "left", "right"] vs) H := by
  obtain ⟨t, ops, tol, rfl, lg, few, ok, t0, t1, q⟩ := h
  show t__law_log_right K _ [some (.ref t), some (.int tol), none, none, none, none] H
  unfold t__law_log_right
  walk_at "ws_12"
  refine ⟨t, ops, rfl, lg, few, fun d H1 f0 k1 zd hd ea => ?_⟩
  have hf : ∃ f : Int → V, H1 d = some (.dK (mkD (vals ops) f)) ∧ ∀ v ∈ vals ops, ∃ u, f v = .ref u ∧ H1 u = some (.tup [.int (fstL ops v), .int (lastB ops v)]) := by
    obtain ⟨f, h1, h2⟩ := ea
    rcases h1 with h1 | ⟨o, h1⟩
    · exact ⟨f, h1, h2⟩
    · rw [hd] at h1; cases h1
  obtain ⟨f, hdf, hfv⟩ := hf
  walk_at "ws_12"
  refine o_reprLog (lg.keep k1) ok few ?_
  walk_at "ws_12"
  refine k_tup (by simp; decide) fun T H2 n2 => ?_
  refine w_gt2 n2.at_ ?_
  walk_at "ws_12"
  have k2 := k1.trans n2.keep
  have hd2 := n2.get hdf
  have lg2 := lg.keep k2
  refine ⟨d, _, hd2, trivial, fun od => ?_⟩
  have kL : Keep (At d) H2 (upd H2 d (.frz od (.dK (mkD (vals ops) f)))) := Keep.lock hd2
  have hf2 : ∀ v ∈ vals ops, ∃ u, f v = .ref u ∧ H2 u = some (.tup [.int (fstL ops v), .int (lastB ops v)]) := fun v hv => by obtain ⟨u, a, b⟩ := hfv v hv; exact ⟨u, a, n2.get b⟩
  have vl := vals_len ops
  refine ⟨.ref d, by with_unfolding_all rfl, d, od, rfl, .inl ⟨_, upd_same, ?_⟩⟩
  refine for_it walk_keys (fun n σ H' => (∃ x4 x5, σ = [some (.ref t), some (.int tol), some (.ref d), some (.str (PyData.tuple (ops.map Op.dat)).shown), x4, x5]) ∧ Keep (At d) H2 H' ∧ H' d = some (.frz od (.dK (mkD (vals ops) f)))) ⟨⟨_, _, rfl⟩, kL, upd_same⟩ (fun _ _ _ _ h => h.2.2) ?_ ?_
  · rintro n x σ H3 H4 hn ⟨⟨x4, x5, rfl⟩, k3, hd3⟩ ⟨rfl, kk, y, hk, rfl⟩
    obtain ⟨u, eu, rfl, rfl⟩ := mkD_at hk
    have hu : u ∈ vals ops := List.mem_of_getElem? eu
    walk_at "ws_12"
    unfold t__law_log_right_1
    walk_at "ws_12"
    refine ⟨.ref d, by with_unfolding_all rfl, d, od, rfl, .inl ⟨_, hd3, fun D hD => ?_⟩⟩
    refine lc_it walk_keys (fun m H' => Keep NoS H4 H' ∧ H' D = some (.lst ((List.replicate m true).map V.bl))) ⟨Keep.new hD, upd_same⟩ (fun _ H' _ h => h.1.all _ _ id hd3) ?_ ?_
    · rintro m z H5 H6 hm ⟨k5, hb⟩ ⟨rfl, kk2, y2, hk2, rfl⟩
      obtain ⟨v, ev, rfl, rfl⟩ := mkD_at hk2
      have hv : v ∈ vals ops := List.mem_of_getElem? ev
      have ml : m < 200 := by rw [mkD_len] at hm; omega
      refine ⟨rfl, ?_⟩
      simp only [tYes, if_true]
      walk_at "ws_12"
      refine ⟨t, d, ops, tol, u, v, rfl, (lg2.keep k3).keep k5, few, ok, EndsAt.of_f hf2 (k3.trans k5.of0) (k5.all _ _ id hd3), t0, t1, hu, hv, fun H7 k7 => ?_⟩
      have hb7 := k7.all _ _ id hb
      refine ⟨_, hb7, by rw [List.length_map, List.length_replicate]; exact Nat.lt_of_le_of_lt (by omega : m ≤ 1000) (by decide), (k5.trans k7).put0 hD hb7, ?_⟩
      rw [List.replicate_succ', List.map_append]
      exact upd_same
    · rintro H5 ⟨k5, hb⟩
      walk_at "ws_12"
      refine ⟨D, _, rfl, .inl (.inl hb), ?_⟩
      rw [all_true]
      walk_at "ws_12"
      refine w_iteF rfl ?_
      walk_at "ws_12"
      exact ⟨⟨_, _, rfl⟩, k3.trans k5.of0, k5.all _ _ id hd3⟩
  · rintro σ H3 ⟨⟨x4, x5, rfl⟩, k3, hd3⟩
    refine ⟨hd3, ?_⟩
    have k4 := k3.unlock hd2
    walk_at "ws_12"
    refine o_reprLog (lg2.keep k4) ok few ?_
    walk_at "ws_12"
    rw [show decide (V.str (PyData.tuple (ops.map Op.dat)).shown = V.str (PyData.tuple (ops.map Op.dat)).shown) = true by simp]
    exact q _ (k2.trans k4)
/-- a log with more operations behind -/
theorem LogAt.more {H : Hp} {c : Addr} {xs ys : List V} {as bs : List Op} (h : H c = some (.tup (xs ++ ys))) (l1 : xs.length = as.length) (h1 : ∀ (i : Nat) (o : Op), as[i]? = some o → ∃ u, xs[i]? = some (.ref u) ∧ H u = some (opT o)) (l2 : ys.length = bs.length) (h2 : ∀ (i : Nat) (o : Op), bs[i]? = some o → ∃ u, ys[i]? = some (.ref u) ∧ H u = some (opT o)) : LogAt H c (as ++ bs) := by
  refine ⟨xs ++ ys, h, by rw [List.length_append, List.length_append, l1, l2], fun i o e => ?_⟩
  by_cases z : i < as.length
  · rw [List.getElem?_append_left z] at e
    rw [List.getElem?_append_left (by omega)]
    exact h1 i o e
  · rw [List.getElem?_append_right (by omega)] at e
    rw [List.getElem?_append_right (by omega), l1]
    exact h2 _ o e
theorem right6_2 {K : PySem.W.Frag} {D : Ends} {p c : Addr} {ops : List Op} {N : Nat} {x2 x4 x5 x6 x7 : Option V} {H : Hp} (pt : Pot H p N) (hN : 2 ≤ N) (lg : LogAt H c ops) (few : ops.length ≤ 200) (pos : 0 < ops.length) (ok : ∀ o ∈ ops, o.ok)
    (q : ∀ (H' : Hp) (x4 x5 x6 x7 : Option V), Keep (At p) H H' → Pot H' p (N - 2) → D.nx [some (.ref p), some (.int 1000000000000000), x2, some (.ref c), x4, x5, x6, x7] H') :
    t6__law_right_2 K D [some (.ref p), some (.int 1000000000000000), x2, some (.ref c), x4, x5, x6, x7] H := by
  unfold t6__law_right_2
  obtain ⟨xs, hx, hl, _⟩ := id lg
  walk_at "ws_12"
  refine o_draw pt (by omega) (by omega) (by omega) fun H1 a k1 pt1 a0 a1 => ?_
  have hx1 := k1.tup _ _ hx
  walk_at "ws_12"
  refine o_draw pt1 (by omega) (by omega) (by omega) fun H2 b k2 pt2 b0 b1 => ?_
  have lg2 := (lg.keep k1).keep k2
  obtain ⟨i, rfl⟩ := Int.eq_ofNat_of_zero_le a0
  obtain ⟨j, rfl⟩ := Int.eq_ofNat_of_zero_le b0
  have li : i < ops.length := by omega
  have lj : j < ops.length := by omega
  obtain ⟨_, u1, c1, c2, c3⟩ := lg2.get (List.getElem?_eq_getElem li)
  obtain ⟨_, u2, d1, d2, d3⟩ := lg2.get (List.getElem?_eq_getElem lj)
  have o1 := ok _ (List.getElem_mem li)
  have o2 := ok _ (List.getElem_mem lj)
  unfold Op.ok at o1 o2
  walk_at "ws_12"
  refine o_ixt c1 c2 ?_
  walk_at "ws_12"
  refine o_ixt d1 d2 ?_
  walk_at "ws_12"
  generalize hg : (if ops[i].b - ops[j].e > 0 then ops[i].b - ops[j].e else (0 : Int)) = gap
  have g0 : 0 ≤ gap := by rw [← hg]; split <;> omega
  have g1 : gap ≤ 2000000000000000 := by rw [← hg]; split <;> omega
  refine o_pow ⟨by decide, by decide +kernel⟩ ?_
  walk_at "ws_12"
  refine k_tup (by simp; decide) fun T H3 n3 => ?_
  have kk : Keep (At p) H H3 := (k1.trans k2).trans n3.keep
  have hv : ∀ x ∈ [V.int 0, V.int gap, V.int (if gap - 1 > 0 then gap - 1 else 0), V.int (2 * 1000000000000000), V.int (10 ^ (16 : Int).toNat)], ∃ s : Int, x = .int s ∧ 0 ≤ s ∧ s ≤ 10000000000000000 := by
    intro x hx
    simp only [List.mem_cons, List.not_mem_nil, or_false] at hx
    rcases hx with rfl | rfl | rfl | rfl | rfl
    · exact ⟨_, rfl, by omega, by omega⟩
    · exact ⟨_, rfl, by omega, by omega⟩
    · exact ⟨_, rfl, by split <;> omega, by split <;> omega⟩
    · exact ⟨_, rfl, by omega, by omega⟩
    · exact ⟨_, rfl, by decide +kernel, by decide +kernel⟩
  refine k_Ft n3.at_ (fun _ σ H' => (∃ x7, σ = [some (.ref p), some (.int 1000000000000000), x2, some (.ref c), some (.int i), some (.int j), some (.int gap), x7]) ∧ Keep NoS H3 H') ⟨⟨_, rfl⟩, Keep.refl _ _⟩ (fun _ _ _ _ h => h.2.tup _ _ n3.at_) ?_ ?_
  · rintro n x σ H4 hn ⟨⟨y7, rfl⟩, k4⟩
    obtain ⟨s, rfl, s0, s1⟩ := hv x (List.mem_of_getElem? hn)
    walk_at "ws_12"
    unfold t6__law_right_1
    walk_at "ws_12"
    refine ⟨c, ops, s, rfl, (lg.keep kk).keep k4, few, ok, s0, s1, fun H5 k5 => ?_⟩
    walk_at "ws_12"
    refine w_iteF rfl ?_
    walk_at "ws_12"
    exact ⟨⟨_, rfl⟩, k4.trans k5⟩
  · rintro σ H4 ⟨⟨y7, rfl⟩, k4⟩
    exact q H4 _ _ _ _ (kk.trans k4.of0) (((pt2.new n3).keep k4).le (by omega))
theorem op_ok {w : Bool} {v b e : Int} (h1 : w = true → 1 ≤ v) (h2 : 0 ≤ v) (h3 : v ≤ 1000000000) (h4 : -1000000000000000 ≤ b) (h5 : b ≤ e) (h6 : e ≤ 1000000000000000) : Op.ok ⟨w, v, b, e⟩ := ⟨h1, h2, h3, h4, h5, h6⟩
/-- the items of a log -/
theorem LogAt.items {H : Hp} {t : Addr} {ops : List Op} (h : LogAt H t ops) : ∃ xs : List V, H t = some (.tup xs) ∧ xs.length = ops.length ∧ ∀ (i : Nat) (o : Op), ops[i]? = some o → ∃ u, xs[i]? = some (.ref u) ∧ H u = some (opT o) := h
theorem one_item {H : Hp} {u : Addr} {o : Op} (h : H u = some (opT o)) : ∀ (i : Nat) (q : Op), [o][i]? = some q → ∃ w, [V.ref u][i]? = some (.ref w) ∧ H w = some (opT q) := fun i q e => by
  match i, e with
  | 0, e => exact ⟨u, rfl, by rw [h, Option.some.inj e]⟩
theorem two_items {H : Hp} {u w : Addr} {o r : Op} (h : H u = some (opT o)) (h2 : H w = some (opT r)) : ∀ (i : Nat) (q : Op), [o, r][i]? = some q → ∃ z, [V.ref u, V.ref w][i]? = some (.ref z) ∧ H z = some (opT q) := fun i q e => by
  match i, e with
  | 0, e => exact ⟨u, rfl, by rw [h, Option.some.inj e]⟩
  | 1, e => exact ⟨w, rfl, by rw [h2, Option.some.inj e]⟩
theorem pure6__law_right {K : PySem.W.Frag} {vs : List V} {H : Hp} {Q : VK} {E : XK} (h : spRight vs H Q E) : t6__law_right K { nx := fun _ H' => Q .non H', rt := Q } (start ["pot", "far", "turn", "book", "at", "far_one", "gap", "slack"] vs) H := by
  obtain ⟨p, N, rfl, pt, hN, q⟩ := h
  show t6__law_right K _ [some (.ref p), none, none, none, none, none, none, none] H
  unfold t6__law_right
  walk_at "ws_12"
  refine o_pow ⟨by decide, by decide +kernel⟩ ?_
  walk_at "ws_12"
  rw [show (10 : Int) ^ (15 : Int).toNat = 1000000000000000 by decide +kernel]
  refine k_R1 (by omega) (by omega) (fun n σ H' => (∃ x2 x3 x4 x5 x6 x7, σ = [some (.ref p), some (.int 1000000000000000), x2, x3, x4, x5, x6, x7]) ∧ Keep (At p) H H' ∧ Pot H' p (N - 300 * n)) ⟨⟨_, _, _, _, _, _, rfl⟩, Keep.refl _ _, pt.le (by omega)⟩ ?_ ?_
  · rintro n σ H1 hn ⟨⟨x2, x3, x4, x5, x6, x7, rfl⟩, k1, pt1⟩
    have hn3 : n < 3 := hn
    walk_at "ws_12"
    unfold t6__law_right_3
    walk_at "ws_12"
    refine ⟨p, 12, 14, N - 300 * n, rfl, pt1, by omega, by omega, by omega, by omega, by simp; omega, fun F1 t1 ops1 kp1 pt2 dd1 lo1 hl1 ho1 => ?_⟩
    walk_at "ws_12"
    refine ⟨p, 12, 2, 5, N - 300 * n - 104, rfl, pt2.le (by simp), by omega, by omega, by omega, by omega, by omega, by omega, by simp; omega, fun F2 t2 ops2 kp2 pt3 dd2 lo2 hl2 ho2 => ?_⟩
    walk_at "ws_12"
    refine k_lst (by simp; decide) fun l F3 n3 => ?_
    walk_at "ws_12"
    have pt4 : Pot F3 p (N - 300 * n - 104 - 104) := (pt3.new n3).le (by simp)
    refine o_any pt4 (by omega) (fun z => pt3.ne n3.no z.symm) (.inl n3.at_) (by simp) (by simp) fun F4 i v ev kp4 pt5 => ?_
    have k14 : Keep (At p) H1 F4 := ((kp1.trans kp2).trans n3.keep).trans kp4
    -- the log that was drawn
    have drawn : ∃ (b : Addr) (ops : List Op), v = .ref b ∧ LogAt F4 b ops ∧ ops.length ≤ 12 ∧ ∀ o ∈ ops, o.ok := by
      have g1 : LogAt F4 t1 ops1 := (((LogAt.of_dd dd1).keep kp2).keep (S := NoS) n3.keep).keep kp4
      have g2 : LogAt F4 t2 ops2 := ((LogAt.of_dd dd2).keep (S := NoS) n3.keep).keep kp4
      match i, ev with
      | 0, ev => exact ⟨t1, ops1, (Option.some.inj ev).symm, g1, by simpa using hl1, lo1.1⟩
      | 1, ev => exact ⟨t2, ops2, (Option.some.inj ev).symm, g2, by rw [hl2]; simp, lo2.1⟩
    obtain ⟨b, ops, rfl, lgb, fewb, okb⟩ := drawn
    walk_at "ws_12"
    refine k_tup (by simp; decide) fun u F5 n5 => ?_
    walk_at "ws_12"
    refine k_tup (by simp; decide) fun w F6 n6 => ?_
    obtain ⟨xs, b1, b2, b3⟩ := (lgb.keep (S := NoS) n5.keep).keep (S := NoS) n6.keep
    refine o_catt b1 n6.at_ (Nat.le_trans (by rw [b2]; simp; omega : _ ≤ 1000) (by decide)) fun c F7 k7 hc => ?_
    have lgc : LogAt F7 c (ops ++ [⟨false, 0, -1000000000000000, 1000000000000000⟩]) := by
      refine LogAt.more hc b2 (fun i o e => ?_) rfl (one_item (k7.tup _ _ (n6.get n5.at_)))
      obtain ⟨u', e1, e2⟩ := b3 i o e
      exact ⟨u', e1, k7.tup _ _ e2⟩
    have okc : ∀ o ∈ ops ++ [⟨false, 0, -1000000000000000, 1000000000000000⟩], Op.ok o := fun o ho => by
      rcases List.mem_append.mp ho with ho | ho
      · exact okb o ho
      · rw [List.mem_singleton.mp ho]
        exact op_ok (fun z => by cases z) (by omega) (by omega) (by omega) (by omega) (by omega)
    have k17 : Keep (At p) H1 F7 := ((k14.trans n5.keep).trans n6.keep).trans k7.of0
    have pt7 : Pot F7 p (N - 300 * n - 104 - 104 - 1) := ((pt5.new n5).new n6).keep k7
    have ending : ∀ (x4 x5 x6 x7 : Option V) (c2 : Addr) (ops2 : List Op) (H9 : Hp) (D0 : Ends), Keep (At p) H1 H9 → Pot H9 p (N - 300 * n - 104 - 104 - 1 - 1) → LogAt H9 c2 ops2 → ops2.length ≤ 15 → 0 < ops2.length → (∀ o ∈ ops2, o.ok) →
        (D0.nx = fun σ H' => (∃ x2 x3 x4 x5 x6 x7, σ = [some (.ref p), some (.int 1000000000000000), x2, x3, x4, x5, x6, x7]) ∧ Keep (At p) H H' ∧ Pot H' p (N - 300 * (n + 1))) →
        t6__law_right_2 K D0 [some (.ref p), some (.int 1000000000000000), some (.int (0 + n)), some (.ref c2), x4, x5, x6, x7] H9 := by
      intro x4 x5 x6 x7 c2 ops2 H9 D0 k9 pt9 lg9 few9 pos9 ok9 eD
      refine right6_2 pt9 (by omega) lg9 (by omega) pos9 ok9 fun H' y4 y5 y6 y7 kz pz => ?_
      rw [eD]
      exact ⟨⟨_, _, _, _, _, _, rfl⟩, k1.trans (k9.trans kz), pz.le (by omega)⟩
    walk_at "ws_12"
    refine o_draw pt7 (by omega) (by omega) (by omega) fun F8 z k8 pt8 z0 z1 => ?_
    walk_at "ws_12"
    have k18 := k17.trans k8
    have lg8 := lgc.keep k8
    rw [show decide (V.int z = V.int 0) = decide (z = 0) by simp]
    refine w_ite (fun e => ?_) (fun e => ?_)
    · walk_at "ws_12"
      refine k_tup (by simp; decide) fun u2 G1 m1 => ?_
      walk_at "ws_12"
      refine o_pow ⟨by decide, by decide +kernel⟩ ?_
      walk_at "ws_12"
      rw [show (10 : Int) ^ (9 : Int).toNat = 1000000000 by decide +kernel]
      refine k_tup (by simp; decide) fun u3 G2 m2 => ?_
      walk_at "ws_12"
      refine k_tup (by simp; decide) fun w2 G3 m3 => ?_
      obtain ⟨ys, c1, c2, c3⟩ := ((lg8.keep (S := NoS) m1.keep).keep (S := NoS) m2.keep).keep (S := NoS) m3.keep
      refine o_catt c1 m3.at_ (Nat.le_trans (by rw [c2, List.length_append]; simp; omega : _ ≤ 1000) (by decide)) fun c' G4 k4 hc' => ?_
      have lgd : LogAt G4 c' ((ops ++ [⟨false, 0, -1000000000000000, 1000000000000000⟩]) ++ [⟨false, 0, 1000000000000000, 1000000000000000⟩, ⟨true, 1000000000, -1000000000000000, -1000000000000000⟩]) := by
        refine LogAt.more hc' c2 (fun i o e => ?_) rfl (two_items (k4.tup _ _ (m3.get (m2.get m1.at_))) (k4.tup _ _ (m3.get m2.at_)))
        obtain ⟨u', e1, e2⟩ := c3 i o e
        exact ⟨u', e1, k4.tup _ _ e2⟩
      walk_at "ws_12"
      refine ending _ _ _ _ c' _ G4 _ ((((k18.trans m1.keep).trans m2.keep).trans m3.keep).trans k4.of0) ((((pt8.new m1).new m2).new m3).keep k4) lgd (by rw [List.length_append, List.length_append]; simp; omega) (by simp) (fun o ho => ?_) rfl
      rcases List.mem_append.mp ho with ho | ho
      · exact okc o ho
      · simp only [List.mem_cons, List.not_mem_nil, or_false] at ho
        rcases ho with rfl | rfl
        · exact op_ok (fun z => by cases z) (by omega) (by omega) (by omega) (by omega) (by omega)
        · exact op_ok (fun z => by omega) (by omega) (by omega) (by omega) (by omega) (by omega)
    · walk_at "ws_12"
      exact ending _ _ _ _ c _ F8 _ k18 pt8 lg8 (by rw [List.length_append]; simp; omega) (by simp) okc rfl
  · rintro σ H1 ⟨⟨x2, x3, x4, x5, x6, x7, rfl⟩, k1, pt1⟩
    walk_at "ws_12"
    exact q H1 k1
end LB

open PySem PySem.Spec PyProof.Rows L2 LB StX
/-! the tactic: one step of a reading; many -/
local macro_rules | `(tactic| walk_at "w1_13") => `(tactic| first
  | with_reducible refine w_seq ?_ | with_reducible refine w_asg ?_ | with_reducible refine w_drop ?_ | with_reducible refine w_ret ?_ | with_reducible refine w_next ?_
  | with_reducible refine w_ifs ?_ | with_reducible refine w_forR1 ?_ | with_reducible refine w_forR2 ?_ | with_reducible refine w_forL ?_ | with_reducible refine w_forT ?_ | with_reducible refine w_name ?_ | with_reducible refine w_sub ?_ | with_reducible refine w_par ?_
  | with_reducible refine w_var (by with_unfolding_all rfl) ?_ | with_reducible refine w_c ?_ | with_reducible refine w_op ?_ | with_reducible refine w_un ?_
  | with_reducible refine w_test ?_ | with_reducible refine w_tb ?_ | with_reducible refine w_nil ?_ | with_reducible refine w_cons ?_ | with_reducible refine w_cb ?_ | with_reducible refine w_call ?_
  | with_reducible refine w_not ?_ | with_reducible refine w_and ?_ | with_reducible refine w_or ?_ | with_reducible refine w_andV ?_ | with_reducible refine w_orV ?_ | with_reducible refine w_notV ?_
  | with_reducible refine w_ife ?_ | with_reducible refine w_chain ?_ | with_reducible refine w_bm ?_ | with_reducible refine w_sl ?_ | with_reducible refine w_part ?_ | with_reducible refine w_nopart ?_
  | with_reducible refine w_exb ?_ | with_reducible refine w_exi ?_ | with_reducible refine w_ex2 ?_ | with_reducible refine w_ex3 ?_ | with_reducible refine w_lstrg ?_ | with_reducible refine w_rg2 ?_ | with_reducible refine w_rg1 ?_ | with_reducible refine w_exij ?_ | with_reducible refine w_tup ?_ | with_reducible refine w_lst ?_
  | with_reducible refine o_add ?_ | with_reducible refine o_sub ?_ | with_reducible refine o_neg ?_ | with_reducible refine o_lt ?_ | with_reducible refine o_le ?_ | with_reducible refine o_gt ?_ | with_reducible refine o_ge ?_
  | with_reducible refine o_ixL (by assumption) (by decide) (by with_unfolding_all rfl) ?_ | with_reducible refine o_ixT (by assumption) (by decide) (by with_unfolding_all rfl) ?_
  | with_reducible refine o_mod (by first | decide | omega) ?_ | with_reducible refine o_mul (by first | decide | omega) ?_ | with_reducible refine o_fdv (by first | decide | omega) (by first | decide | omega) ?_ | with_reducible refine o_setL (by assumption) (by decide) (by simp) ?_
  | with_reducible refine oo_addi ?_ | with_reducible refine oo_sub ?_ | with_reducible refine oo_neg ?_ | with_reducible refine w_rev ?_ | with_reducible refine w_m0 ?_
  | with_reducible refine w_par3 ?_ | with_reducible refine w_tyl (by assumption) ?_
  | with_reducible refine o_abs ?_ | with_reducible refine o_eqs (by with_unfolding_all rfl) ?_ | with_reducible refine o_nes (by with_unfolding_all rfl) ?_ | with_reducible refine o_max2 ?_ | with_reducible refine o_min2 ?_ | with_reducible refine o_isiX (by assumption) ?_ | with_reducible refine o_lenl (by assumption) ?_ | with_reducible refine o_lent (by assumption) ?_ | with_reducible refine o_int1b ?_)
local macro_rules | `(tactic| walk_at "ws_13") => `(tactic| repeat (first | walk_at "w1_13" | dsimp only [List.set_cons_zero, List.set_cons_succ]))
namespace LB
/-! ### parts side by side, rows below each other -/
def spSpaced : Sp := fun vs H Q _ => ∃ (a : Addr) (ps : List Part), vs = [.ref a] ∧ H a = some (.tup (ps.map Part.v)) ∧ ps.length ≤ 300 ∧ (∀ p ∈ ps, p.ok) ∧ ∀ H1, Keep NoS H H1 → Q (.str (rowT ps)) H1
theorem spSpaced_arity {vs : List V} {H : Hp} {Q : VK} {E : XK} (h : spSpaced vs H Q E) : vs.length = 1 := by obtain ⟨_, _, rfl, _⟩ := h; rfl
def spFormat : Sp := fun vs H Q _ => ∃ (t : Addr) (ops : List Op), vs = [.ref t] ∧ LogAt H t ops ∧ ops.length ≤ 200 ∧ (∀ o ∈ ops, o.ok) ∧ ∀ H1, Keep NoS H H1 → Q (.str (pageS ops)) H1
theorem spFormat_arity {vs : List V} {H : Hp} {Q : VK} {E : XK} (h : spFormat vs H Q E) : vs.length = 1 := by obtain ⟨_, _, rfl, _⟩ := h; rfl
/-! ### numbers, rows and pages read back -/
def numV : Option Int → V
  | some i => .int i
  | none => .non
def spParseInt : Sp := fun vs H Q _ => ∃ a : Str, vs = [.str a] ∧ a.length + 2 ≤ sizeLine ∧ ∀ H1, Keep NoS H H1 → Q (numV (pnum a)) H1
theorem spParseInt_arity {vs : List V} {H : Hp} {Q : VK} {E : XK} (h : spParseInt vs H Q E) : vs.length = 1 := by obtain ⟨_, rfl, _⟩ := h; rfl
def spParseOp : Sp := fun vs H Q _ => ∃ a : Str, vs = [.str a] ∧ a.length ≤ 100000 ∧ ∀ p H1, Keep NoS H H1 → H p = none → DD All H1 (.ref p) (parseOpD a) → Q (.ref p) H1
theorem spParseOp_arity {vs : List V} {H : Hp} {Q : VK} {E : XK} (h : spParseOp vs H Q E) : vs.length = 1 := by obtain ⟨_, rfl, _⟩ := h; rfl
def spParseOps : Sp := fun vs H Q _ => ∃ a : Str, vs = [.str a] ∧ a.length ≤ 100000 ∧ ∀ p H1, Keep NoS H H1 → H p = none → DD All H1 (.ref p) (parseOpsD a) → Q (.ref p) H1
theorem spParseOps_arity {vs : List V} {H : Hp} {Q : VK} {E : XK} (h : spParseOps vs H Q E) : vs.length = 1 := by obtain ⟨_, rfl, _⟩ := h; rfl
def spParseLog : Sp := fun vs H Q _ => ∃ a : Str, vs = [.str a] ∧ a.length ≤ 100000 ∧ isLogD (parseOpsD a) = true ∧ ∀ p H1, Keep NoS H H1 → H p = none → DD All H1 (.ref p) (parseOpsD a) → Q (.ref p) H1
theorem spParseLog_arity {vs : List V} {H : Hp} {Q : VK} {E : XK} (h : spParseLog vs H Q E) : vs.length = 1 := by obtain ⟨_, rfl, _⟩ := h; rfl
def t__spaced (K : PySem.W.Frag) : TS :=
  (tRet (tM1 (rJoin K) (tC (V.str " ")) (tLc (iSeq K (tVar 0)) (gName 1) tYes (tCB rStrS (tCons (tVar 1) tNil)) [1])))

def t_format_log (K : PySem.W.Frag) : TS :=
  (tSeq (tIfS (tTest (tOp (rEqA K) (tCB (rLen K) (tCons (tVar 0) tNil)) (tC (V.int 0))))
    (tRet (tC (V.str "-"))) tNext)
    (tRet (tM1 (rJoin K) (tC (V.str "\n")) (tLc (iSeq K (tVar 0)) (gName 1) tYes (tCall spSpaced [] E0 (tCons (tVar 1) tNil)) [1]))))

def t_parse_integer (K : PySem.W.Frag) : TS :=
  (tSeq (tAsg (tM1 rRmPre (tVar 0) (tC (V.str "-"))) (gName 1))
    (tSeq (tIfS (tOr (tTest (tOp (rEqA K) (tCB (rLen K) (tCons (tVar 1) tNil)) (tC (V.int 0)))) (tTest (tOp rGtI (tCB (rLen K) (tCons (tVar 1) tNil)) (tC (V.int 20)))))
    (tRet (tC V.non)) tNext)
    (tSeq (tIfS (tNot (tB (tCB (rAll K) (tCons (tLc (iStr (tVar 1)) (gName 2) tYes (tOp rInSign (tVar 2) (tC (V.str "0123456789"))) [2]) tNil))))
    (tRet (tC V.non)) tNext)
    (tSeq (tAsg (tCB rIntS (tCons (tVar 0) tNil)) (gName 3))
    (tRet (tIf (tTest (tOp (rEqA K) (tCB rStrS (tCons (tVar 3) tNil)) (tVar 0))) (tVar 3) (tC V.non)))))))

def t__parse_operation (K : PySem.W.Frag) : TS :=
  (tSeq (tAsg (tM1 rSplit (tVar 0) (tC (V.str " "))) (gStar K 1 2))
    (tSeq (tAsg (tLc (iSeq K (tVar 2)) (gName 4) tYes (tCall spParseInt [] E0 (tCons (tVar 4) tNil)) [4]) (gName 3))
    (tRet (tTup (tCons (tVar 1) (tStar K (tVar 3) tNil))))))

def t__parse_operations (K : PySem.W.Frag) : TS :=
  (tSeq (tIfS (tTest (tOp (rEqA K) (tVar 0) (tC (V.str "-"))))
    (tRet (tTup tNil)) tNext)
    (tRet (tCB (rTupOf K) (tCons (tLc (iSeq K (tM1 rSplit (tVar 0) (tC (V.str "\n")))) (gName 1) tYes (tCall spParseOp [] E0 (tCons (tVar 1) tNil)) [1]) tNil))))

def t_parse_log (K : PySem.W.Frag) : TS :=
  (tSeq (tAsg (tIf (tB (tCB (rIsi K) (tCons (tVar 0) (tCons (tC (V.ty "str")) tNil)))) (tCall spParseOps [] E0 (tCons (tVar 0) tNil)) (tC V.non)) (gName 1))
    (tSeq (tIfS (tNot (tB (tCall spIsLog [] E0 (tCons (tVar 1) tNil))))
    tNever tNext)
    (tRet (tVar 1))))

def t__law_row (K : PySem.W.Frag) : TS :=
  (tRet (tM1 (rJoin K) (tC (V.str " ")) (tLc (iSeq K (tVar 0)) (gName 1) tYes (tCB rStrS (tCons (tVar 1) tNil)) [1])))

def t__law_page (K : PySem.W.Frag) : TS :=
  (tRet (tIf (tTest (tOp (rNeA K) (tVar 0) (tTup tNil))) (tM1 (rJoin K) (tC (V.str "\n")) (tLc (iSeq K (tVar 0)) (gName 1) tYes (tCall spSpaced [] E0 (tCons (tVar 1) tNil)) [1])) (tC (V.str "-"))))
theorem map_getD {α β : Type} (g : α → β) (d : α) : ∀ l : List α, (List.range l.length).map (fun n => g (l.getD n d)) = l.map g := by
  intro l
  refine List.ext_getElem (by simp) fun i h1 h2 => ?_
  simp only [List.length_map, List.length_range] at h1
  simp [List.getElem?_eq_getElem h1]
theorem getD_of {α : Type} {l : List α} {n : Nat} {x d : α} (h : l[n]? = some x) : l.getD n d = x := by simp [List.getD, h]
theorem row_fits {ps : List Part} (few : ps.length ≤ 300) (ok : ∀ p ∈ ps, p.ok) : ((ps.map Part.t).map (·.length)).sum + (ps.map Part.t).length * ((" " : Str)).length ≤ 16777216 := by
  have h := sum_le (l := ps.map Part.t) (b := 100) fun x hx => by
    obtain ⟨p, hp, rfl⟩ := List.mem_map.mp hx
    exact Part.len (ok p hp)
  rw [List.length_map] at h ⊢
  rw [show ((" " : Str)).length = 1 from rfl]
  omega
theorem spaced_walk {K : PySem.W.Frag} {vs : List V} {H : Hp} {Q : VK} {E : XK} (h : spSpaced vs H Q E) : t__spaced K { nx := fun _ H' => Q .non H', rt := Q } (start ["parts", "part"] vs) H := by
  obtain ⟨a, ps, rfl, ha, few, ok, q⟩ := h
  show t__spaced K _ [some (.ref a), none] H
  unfold t__spaced
  walk_at "ws_13"
  refine w_m1 ?_
  walk_at "ws_13"
  refine w_tys ?_
  refine w_lcTT (by with_unfolding_all rfl) ha ?_
  refine lc_dt (fun n => .str ((ps.getD n (.n 0)).t)) (.inr ⟨rfl, ha⟩) (by rw [List.length_map]; omega) (fun n x H2 Q2 hn k q2 => ?_) fun D H1 ys k1 _ hD hd => ?_
  · rw [List.getElem?_map] at hn
    obtain ⟨p, hp, rfl⟩ := Option.map_eq_some_iff.mp hn
    rw [getD_of hp] at q2
    walk_at "ws_13"
    cases p with
    | s x => exact o_strs (q2 _ H2 (Keep.refl _ _) (.str _))
    | n i => exact o_stri (log_of (ok _ (List.mem_of_getElem? hp))) (q2 _ H2 (Keep.refl _ _) (.str _))
  · rw [List.length_map] at hd
    have e : (List.range ps.length).map (fun n => PyData.str ((ps.getD n (.n 0)).t)) = (ps.map Part.t).map PyData.str := by
      rw [map_getD (fun p : Part => PyData.str p.t), List.map_map]; rfl
    rw [e] at hd
    have := hd.strs
    subst this
    exact o_join hD (row_fits few ok) (q H1 k1)
theorem pure__spaced {K : PySem.W.Frag} {vs : List V} {H : Hp} {Q : VK} {E : XK} (h : spSpaced vs H Q E) : t__spaced K { nx := fun _ H' => Q .non H', rt := Q } (start ["parts", "part"] vs) H := spaced_walk h
theorem pure__law_row {K : PySem.W.Frag} {vs : List V} {H : Hp} {Q : VK} {E : XK} (h : spSpaced vs H Q E) : t__law_row K { nx := fun _ H' => Q .non H', rt := Q } (start ["operation", "part"] vs) H := spaced_walk h
theorem rowS_len {o : Op} (h : o.ok) : (rowS o).length ≤ 404 := by
  have h1 := join_len " " (o.parts.map Part.t)
  have h2 := sum_le (l := o.parts.map Part.t) (b := 100) fun x hx => by
    obtain ⟨p, hp, rfl⟩ := List.mem_map.mp hx
    exact Part.len (Op.parts_ok h p hp)
  have h3 : (o.parts.map Part.t).length = 4 := rfl
  rw [h3] at h1 h2
  rw [show ((" " : Str)).length = 1 from rfl] at h1
  exact Nat.le_trans h1 (by omega)
theorem page_fits {ops : List Op} (few : ops.length ≤ 200) (ok : ∀ o ∈ ops, o.ok) : ((ops.map rowS).map (·.length)).sum + (ops.map rowS).length * (("\n" : Str)).length ≤ 81200 := by
  have h := sum_le (l := ops.map rowS) (b := 404) fun x hx => by
    obtain ⟨o, ho, rfl⟩ := List.mem_map.mp hx
    exact rowS_len (ok o ho)
  rw [List.length_map] at h ⊢
  rw [show (("\n" : Str)).length = 1 from rfl]
  omega
theorem pageS_len {ops : List Op} (few : ops.length ≤ 200) (ok : ∀ o ∈ ops, o.ok) : (pageS ops).length ≤ 81200 := by
  unfold pageS
  split
  · decide
  · exact Nat.le_trans (join_len _ _) (page_fits few ok)
/-- the rows of a log -/
theorem lc_rows {K : PySem.W.Frag} {H : Hp} {Q : VK} {t : Addr} {ops : List Op} (lg : LogAt H t ops) (few : ops.length ≤ 200) (ok : ∀ o ∈ ops, o.ok) (q : ∀ H1, Keep NoS H H1 → Q (.str (Txt.join "\n" (ops.map rowS))) H1) :
    tM1 (rJoin K) (tC (V.str "\n")) (tLc (iSeq K (tVar 0)) (gName 1) tYes (tCall spSpaced [] E0 (tCons (tVar 1) tNil)) [1]) [some (.ref t), none] H Q := by
  obtain ⟨xs, hx, hl, hxs⟩ := id lg
  refine w_m1 ?_
  walk_at "ws_13"
  refine w_tys ?_
  refine w_lcTT (by with_unfolding_all rfl) hx ?_
  refine lc_dt (fun n => .str (rowS (ops.getD n ⟨true, 0, 0, 0⟩))) (.inr ⟨rfl, hx⟩) (by omega) (fun n x H2 Q2 hn k q2 => ?_) fun D H1 ys k1 _ hD hd => ?_
  · have ln : n < xs.length := by
      by_cases z : n < xs.length
      · exact z
      · rw [List.getElem?_eq_none (by omega)] at hn; cases hn
    have eo : ops[n]? = some (ops[n]'(by omega)) := List.getElem?_eq_getElem _
    obtain ⟨u, eu, hu⟩ := hxs n _ eo
    rw [hn] at eu
    cases eu
    rw [getD_of eo] at q2
    walk_at "ws_13"
    exact ⟨u, (ops[n]'(by omega)).parts, rfl, k.tup _ _ hu, by simp [Op.parts], Op.parts_ok (ok _ (List.getElem_mem _)), fun H3 k3 => q2 _ H3 k3 (.str _)⟩
  · rw [hl] at hd
    have e : (List.range ops.length).map (fun n => PyData.str (rowS (ops.getD n ⟨true, 0, 0, 0⟩))) = (ops.map rowS).map PyData.str := by
      rw [map_getD (fun o : Op => PyData.str (rowS o)), List.map_map]; rfl
    rw [e] at hd
    have := hd.strs
    subst this
    exact o_join hD (Nat.le_trans (page_fits few ok) (by decide)) (q H1 k1)
theorem pure_format_log {K : PySem.W.Frag} {vs : List V} {H : Hp} {Q : VK} {E : XK} (h : spFormat vs H Q E) : t_format_log K { nx := fun _ H' => Q .non H', rt := Q } (start ["log", "operation"] vs) H := by
  obtain ⟨t, ops, rfl, lg, few, ok, q⟩ := h
  show t_format_log K _ [some (.ref t), none] H
  unfold t_format_log
  obtain ⟨xs, hx, hl, _⟩ := id lg
  walk_at "ws_13"
  by_cases z : ops = []
  · refine w_iteT (by rw [hl, z]; rfl) ?_
    walk_at "ws_13"
    have q0 := q H (Keep.refl _ _)
    rw [show pageS ops = "-" by unfold pageS; rw [if_pos z]] at q0
    exact q0
  · have : ops.length ≠ 0 := fun e => z (List.length_eq_zero_iff.mp e)
    refine w_iteF (by rw [hl]; simp; omega) ?_
    walk_at "ws_13"
    refine lc_rows lg few ok fun H1 k1 => ?_
    have q0 := q H1 k1
    rw [show pageS ops = Txt.join "\n" (ops.map rowS) by unfold pageS; rw [if_neg z]] at q0
    exact q0
theorem o_neDat {K : PySem.W.Frag} {S S' : Addr → Prop} {H : Hp} {Q : VK} {x y : V} {d e : PyData} (hx : DD S H x d) (hy : DD S' H y e) (lx : d.canLay0 = true ∧ SeqAt.shaped d = true) (ly : e.canLay0 = true ∧ SeqAt.shaped e = true) (q : Q (.bl (!PyData.eqv d e)) H) : rNeA K x y H Q :=
  .inr ⟨d, e, dd_dp hx lx.1, dd_dp hy ly.1, lx.2, ly.2, q⟩
theorem o_eqDat {K : PySem.W.Frag} {S S' : Addr → Prop} {H : Hp} {Q : VK} {x y : V} {d e : PyData} (hx : DD S H x d) (hy : DD S' H y e) (lx : d.canLay0 = true ∧ SeqAt.shaped d = true) (ly : e.canLay0 = true ∧ SeqAt.shaped e = true) (q : Q (.bl (PyData.eqv d e)) H) : rEqA K x y H Q :=
  .inr (.inr (.inr ⟨d, e, dd_dp hx lx.1, dd_dp hy ly.1, lx.2, ly.2, q⟩))
theorem log_lay (ops : List Op) : (PyData.tuple (ops.map Op.dat)).canLay0 = true ∧ SeqAt.shaped (.tuple (ops.map Op.dat)) = true := by
  have lay : ∀ d ∈ ops.map Op.dat, d.canLay0 = true ∧ d.depth ≤ 60 := fun d hd => by
    obtain ⟨o, _, rfl⟩ := List.mem_map.mp hd
    exact o.lay
  have all := canLayAll0_of fun d hd => (lay d hd).1
  exact ⟨by simp only [PyData.canLay0]; exact all, shaped_tuple lay⟩
theorem pure__law_page {K : PySem.W.Frag} {vs : List V} {H : Hp} {Q : VK} {E : XK} (h : spFormat vs H Q E) : t__law_page K { nx := fun _ H' => Q .non H', rt := Q } (start ["log", "one"] vs) H := by
  obtain ⟨t, ops, rfl, lg, few, ok, q⟩ := h
  show t__law_page K _ [some (.ref t), none] H
  unfold t__law_page
  walk_at "ws_13"
  refine k_tup (by simp) fun u H1 n1 => ?_
  have lg1 := lg.keep (S := NoS) n1.keep
  refine o_neDat (lg1.dd (S := All)) (e := .tuple []) (S' := All) (.tup n1.at_ .nil) (log_lay ops) (log_lay []) ?_
  walk_at "ws_13"
  by_cases z : ops = []
  · refine w_iteF (by rw [z]; rfl) ?_
    walk_at "ws_13"
    have q0 := q H1 n1.keep
    rw [show pageS ops = "-" by unfold pageS; rw [if_pos z]] at q0
    exact q0
  · refine w_iteT (by cases ops with
      | nil => exact absurd rfl z
      | cons o r => rfl) ?_
    walk_at "ws_13"
    refine lc_rows lg1 few ok fun H2 k2 => ?_
    have q0 := q H2 (n1.keep.trans k2)
    rw [show pageS ops = Txt.join "\n" (ops.map rowS) by unfold pageS; rw [if_neg z]] at q0
    exact q0
theorem fold_lt : ∀ (l : List Nat) (acc : Nat), NumText.AllDigits l → l.foldl (fun acc c => acc * 10 + (c - 48)) acc < (acc + 1) * 10 ^ l.length
  | [], acc, _ => by simp
  | c :: r, acc, h => by
    have hc := h.head
    have := fold_lt r (acc * 10 + (c - 48)) h.tail
    rw [List.foldl_cons, List.length_cons]
    refine Nat.lt_of_lt_of_le this ?_
    rw [Nat.pow_succ, Nat.mul_comm (10 ^ r.length) 10, ← Nat.mul_assoc]
    exact Nat.mul_le_mul_right _ (by omega)
theorem digitsVal_lt {l : List Nat} {k : Nat} (h : NumText.AllDigits l) (hl : l.length ≤ k) : NumText.digitsVal l < 10 ^ k := by
  have := fold_lt l 0 h
  rw [Nat.zero_add, Nat.one_mul] at this
  exact Nat.lt_of_lt_of_le this (Nat.pow_le_pow_right (by decide) hl)
theorem valL_lt {l : List Nat} (h : digitsB (cutM l) = true) (hl : (cutM l).length ≤ 20) : (valL l).natAbs < 10 ^ 20 := by
  have hd := digitsB_all.mp h
  unfold cutM at hd hl
  unfold valL
  split at hd
  · rename_i r
    have := digitsVal_lt hd hl
    rw [Int.natAbs_neg, Int.natAbs_natCast]; exact this
  · rename_i hne
    have hl : l.length ≤ 20 := by
      split at hl
      · rename_i r; exact absurd rfl (hne r)
      · exact hl
    have := digitsVal_lt hd hl
    rw [Int.natAbs_natCast]; exact this
theorem cut_le (l : List Nat) : (cutM l).length ≤ l.length := by
  unfold cutM; split <;> simp
theorem lc_digits {H : Hp} {Q : VK} {a d : Str} {u v : Option V} (few : d.length ≤ 20) (q : ∀ (D : Addr) (H1 : Hp), Keep NoS H H1 → H1 D = some (.lst (((TL.tl d).map fun c => decide (c ∈ (("0123456789" : Str)).cps.toList)).map V.bl)) → Q (.ref D) H1) :
    tLc (iStr (tVar 1)) (gName 2) tYes (tOp rInSign (tVar 2) (tC (V.str "0123456789"))) [2] [some (.str a), some (.str d), u, v] H Q := by
  refine ⟨.str d, by with_unfolding_all rfl, d, rfl, fun D hD => ?_⟩
  have hl : d.cps.size = (TL.tl d).length := TL.len_tl d
  refine lc_it (walk_str (z := d)) (fun n H' => Keep NoS H H' ∧ H' D = some (.lst ((((TL.tl d).take n).map fun c => decide (c ∈ (("0123456789" : Str)).cps.toList)).map V.bl))) ⟨Keep.new hD, upd_same⟩ (fun _ _ _ _ => trivial) ?_ ?_
  · rintro n x H1 H2 hn ⟨k1, hb⟩ ⟨rfl, c, hc, rfl⟩
    have ec : (TL.tl d)[n]? = some c := by rw [← hc]; exact Array.getElem?_toList
    refine ⟨rfl, ?_⟩
    simp only [tYes, if_true]
    walk_at "ws_13"
    refine ⟨c, "0123456789", rfl, rfl, ?_⟩
    refine ⟨_, hb, Nat.lt_of_le_of_lt (by rw [List.length_map, List.length_map, List.length_take]; have := TL.len_tl d; exact Nat.le_trans (Nat.min_le_right _ _) (by omega) : _ ≤ 20) (by decide), k1.put0 hD hb, ?_⟩
    rw [List.take_add_one, ec, List.map_append, List.map_append]
    exact upd_same
  · rintro H1 ⟨k1, hb⟩
    rw [hl, List.take_length] at hb
    exact q D H1 k1 hb
theorem pure_parse_integer {K : PySem.W.Frag} {vs : List V} {H : Hp} {Q : VK} {E : XK} (h : spParseInt vs H Q E) : t_parse_integer K { nx := fun _ H' => Q .non H', rt := Q } (start ["text", "digits", "digit", "number"] vs) H := by
  obtain ⟨a, rfl, z, q⟩ := h
  show t_parse_integer K _ [some (.str a), none, none, none] H
  unfold t_parse_integer
  have hd : TL.tl (Txt.removeprefix a "-") = cutM (TL.tl a) := tl_rmpre a
  have hl : (Txt.removeprefix a "-").length = (cutM (TL.tl a)).length := by rw [TL.len_tl, hd]
  walk_at "ws_13"
  refine w_m1 ?_
  walk_at "ws_13"
  refine w_tys ?_
  walk_at "ws_13"
  refine o_rmpre (by omega) ?_
  walk_at "ws_13"
  have lenS : LenV K (V.str (Txt.removeprefix a "-")) H (cutM (TL.tl a)).length := ⟨by have := cut_le (TL.tl a); have := TL.len_tl a; omega, hl.symm⟩
  unfold pnum at q
  refine o_len lenS ?_
  walk_at "ws_13"
  by_cases z0 : (cutM (TL.tl a)).length = 0
  · refine w_iteT (by rw [z0]; rfl) ?_
    refine w_iteT rfl ?_
    walk_at "ws_13"
    rw [if_pos (.inl z0)] at q
    exact q H (Keep.refl _ _)
  refine w_iteF (by simp only [V.int.injEq, decide_eq_false_iff_not]; omega) ?_
  walk_at "ws_13"
  refine o_len lenS ?_
  walk_at "ws_13"
  by_cases z1 : 20 < (cutM (TL.tl a)).length
  · refine w_iteT (decide_eq_true (by omega)) ?_
    walk_at "ws_13"
    rw [if_pos (.inr z1)] at q
    exact q H (Keep.refl _ _)
  refine w_iteF (decide_eq_false (by omega)) ?_
  walk_at "ws_13"
  rw [if_neg (by omega)] at q
  refine lc_digits (by rw [hl]; omega) fun D H1 k1 hD => ?_
  walk_at "ws_13"
  refine ⟨D, _, rfl, .inl (.inl hD), ?_⟩
  walk_at "ws_13"
  have eb : ((TL.tl (Txt.removeprefix a "-")).map fun c => decide (c ∈ (("0123456789" : Str)).cps.toList)).all id = digitsB (cutM (TL.tl a)) := by
    rw [hd, List.all_map]; rfl
  rw [eb]
  cases z2 : digitsB (cutM (TL.tl a)) with
  | false =>
    refine w_iteT rfl ?_
    walk_at "ws_13"
    rw [z2, if_pos rfl] at q
    exact q H1 k1
  | true =>
    refine w_iteF rfl ?_
    walk_at "ws_13"
    rw [z2, if_neg (by simp)] at q
    obtain ⟨en, l21⟩ := int_of_text (a := a) (by omega) z2
    refine ⟨a, _, rfl, en, by omega, ?_⟩
    walk_at "ws_13"
    refine o_stri (log_of (valL_lt z2 (by omega))) ?_
    walk_at "ws_13"
    by_cases z3 : Str.ofString (toString (valL (TL.tl a))) = a
    · refine w_iteT (by rw [z3]; simp) ?_
      walk_at "ws_13"
      rw [if_pos z3] at q
      exact q H1 k1
    · refine w_iteF (by simpa using z3) ?_
      walk_at "ws_13"
      rw [if_neg z3] at q
      exact q H1 k1
theorem w_starL {K : PySem.W.Frag} {i : Nat} {t : TA} {σ : LB.St} {H : Hp} {QA : List V → Hp → Prop} {a : Addr} {xs : List V} (es : σ[i]? = some (some (.ref a))) (e : H a = some (.lst xs)) (h : t σ H fun ys H2 => QA (xs ++ ys) H2) : tStar K (tVar i) t σ H QA :=
  w_var es ⟨a, xs, rfl, .inr (.inl (.inl e)), h⟩
theorem numV_dd {S : Addr → Prop} {H : Hp} (o : Option Int) : DD S H (numV o) (numD o) := by
  cases o with
  | none => exact .non
  | some i => exact .int i
theorem split_ne (a y : Str) : ∃ w ws, Txt.split a y = w :: ws := by
  unfold Txt.split
  split
  · exact ⟨_, _, rfl⟩
  · split
    · exact ⟨_, _, rfl⟩
    · rw [StrLaws.partsBetween_eq]
      exact StrLaws.partsFrom_ne _ _ _ _
theorem joinL_len {S : List Nat} : ∀ {ps : List (List Nat)} {p : List Nat}, p ∈ ps → p.length ≤ (TL.joinL S ps).length
  | [q], p, h => by rw [List.mem_singleton.mp h]; exact Nat.le_refl _
  | q :: r :: ps, p, h => by
    show p.length ≤ (q ++ (S ++ TL.joinL S (r :: ps))).length
    rw [List.length_append, List.length_append]
    rcases List.mem_cons.mp h with e | e
    · rw [e]; omega
    · have := joinL_len (S := S) e; omega
theorem split_len {a y p : Str} (h : p ∈ Txt.split a y) : p.length ≤ a.length := by
  have e := StrLaws.join_split a y
  have e2 := congrArg TL.tl e
  rw [TL.tl_join] at e2
  have := joinL_len (S := TL.tl y) (List.mem_map_of_mem (f := TL.tl) h)
  rw [e2] at this
  rw [TL.len_tl, TL.len_tl]; exact this
theorem pure__parse_operation {K : PySem.W.Frag} {vs : List V} {H : Hp} {Q : VK} {E : XK} (h : spParseOp vs H Q E) : t__parse_operation K { nx := fun _ H' => Q .non H', rt := Q } (start ["line", "word", "words", "numbers", "part"] vs) H := by
  obtain ⟨a, rfl, z, q⟩ := h
  show t__parse_operation K _ [some (.str a), none, none, none, none] H
  unfold t__parse_operation
  walk_at "ws_13"
  refine w_m1 ?_
  walk_at "ws_13"
  refine w_tys ?_
  walk_at "ws_13"
  refine o_split rfl (by rw [sizeLine_eq]; omega) fun p H1 n1 => ?_
  obtain ⟨w, ws, es⟩ := split_ne a " "
  have h1 := n1.at_
  rw [es] at h1
  refine ⟨p, .str w, ws.map V.str, rfl, .inl (.inl h1), fun r hr => ?_⟩
  have n2 : New H1 (upd H1 r (.lst (ws.map V.str))) r (.lst (ws.map V.str)) := .mk' hr
  generalize upd H1 r (.lst (ws.map V.str)) = H2 at n2
  have hw := PyProof.Rows.split_le a " "
  rw [es, List.length_cons] at hw
  walk_at "ws_13"
  refine w_lcL (by with_unfolding_all rfl) n2.at_ ?_
  refine lc_dt (fun n => numD (pnum (ws.getD n Str.empty))) (.inl ⟨rfl, n2.at_⟩) (by rw [List.length_map]; omega) (fun n x H3 Q2 hn k q2 => ?_) fun D H3 ys k3 _ hD hd => ?_
  · rw [List.getElem?_map] at hn
    obtain ⟨y, hy, rfl⟩ := Option.map_eq_some_iff.mp hn
    rw [getD_of hy] at q2
    walk_at "ws_13"
    have := split_len (a := a) (y := " ") (p := y) (by rw [es]; exact List.mem_cons_of_mem _ (List.mem_of_getElem? hy))
    exact ⟨y, rfl, by rw [sizeLine_eq]; omega, fun H4 k4 => q2 _ H4 k4 (numV_dd _)⟩
  · rw [List.length_map, map_getD (fun x => numD (pnum x))] at hd
    walk_at "ws_13"
    refine w_starL (by with_unfolding_all rfl) hD ?_
    walk_at "ws_13"
    have hl := hd.length
    rw [List.length_map] at hl
    rw [List.append_nil]
    refine k_tup (by rw [List.length_cons, hl, sizeLine_eq]; omega) fun u H4 n4 => ?_
    have k := ((n1.keep (S := NoS)).trans (n2.keep.trans k3)).trans n4.keep
    refine q u H4 k ?_ ?_
    · cases e : H u with
      | none => rfl
      | some o => exact absurd (((n1.keep (S := NoS)).trans (n2.keep.trans k3)).all _ _ id e) (by rw [n4.no]; simp)
    · unfold parseOpD
      rw [es]
      exact .tup n4.at_ (.cons (.str w) (hd.keep n4.keep))
theorem w_lcLL {K : PySem.W.Frag} {te0 : TE} {g : TG} {tt : TT} {te : TE} {vs : List Nat} {σ : LB.St} {H : Hp} {Q : VK} (h : te0 σ H fun x H1 => ∃ a, x = .ref a ∧ (∃ xs, SqL K H1 a xs) ∧ tLc (fun _ _ R => R (Itl K a) H1) g tt te vs σ H1 Q) : tLc (iSeq K te0) g tt te vs σ H Q := .inl h
theorem pure__parse_operations {K : PySem.W.Frag} {vs : List V} {H : Hp} {Q : VK} {E : XK} (h : spParseOps vs H Q E) : t__parse_operations K { nx := fun _ H' => Q .non H', rt := Q } (start ["text", "line"] vs) H := by
  obtain ⟨a, rfl, z, q⟩ := h
  show t__parse_operations K _ [some (.str a), none] H
  unfold t__parse_operations
  unfold parseOpsD at q
  walk_at "ws_13"
  by_cases c : a = "-"
  · refine w_iteT (by rw [c]; simp) ?_
    walk_at "ws_13"
    rw [if_pos c] at q
    refine k_tup (by simp) fun u H1 n1 => ?_
    exact q u H1 n1.keep n1.no (.tup n1.at_ .nil)
  · refine w_iteF (by simpa using c) ?_
    walk_at "ws_13"
    rw [if_neg c] at q
    refine w_lcLL (w_m1 ?_)
    walk_at "ws_13"
    refine w_tys ?_
    walk_at "ws_13"
    refine o_split rfl (by rw [sizeLine_eq]; omega) fun p H1 n1 => ?_
    have hw := PyProof.Rows.split_le a "\n"
    refine ⟨p, rfl, ⟨_, .inl (.inl n1.at_)⟩, ?_⟩
    refine lc_dt (K := K) (fun n => parseOpD ((Txt.split a "\n").getD n Str.empty)) (.inl ⟨rfl, n1.at_⟩) (by rw [List.length_map]; omega) (fun n x H3 Q2 hn k q2 => ?_) fun D H3 ys k3 _ hD hd => ?_
    · rw [List.getElem?_map] at hn
      obtain ⟨y, hy, rfl⟩ := Option.map_eq_some_iff.mp hn
      rw [getD_of hy] at q2
      walk_at "ws_13"
      exact ⟨y, rfl, Nat.le_trans (split_len (List.mem_of_getElem? hy)) z, fun u H4 k4 _ hu => q2 _ H4 k4 hu⟩
    · rw [List.length_map, map_getD parseOpD] at hd
      walk_at "ws_13"
      refine o_tupof hD fun u H4 n4 => ?_
      have k := (n1.keep (S := NoS)).trans (k3.trans n4.keep)
      refine q u H4 k ?_ (.tup n4.at_ (hd.keep n4.keep))
      cases e : H u with
      | none => rfl
      | some o => exact absurd (((n1.keep (S := NoS)).trans k3).all _ _ id e) (by rw [n4.no]; simp)
theorem pure_parse_log {K : PySem.W.Frag} {vs : List V} {H : Hp} {Q : VK} {E : XK} (h : spParseLog vs H Q E) : t_parse_log K { nx := fun _ H' => Q .non H', rt := Q } (start ["text", "found"] vs) H := by
  obtain ⟨a, rfl, z, hl, q⟩ := h
  show t_parse_log K _ [some (.str a), none] H
  unfold t_parse_log
  walk_at "ws_13"
  refine o_isi (DD.str (S := NoS) a) (.inr (.inl rfl)) ?_
  walk_at "ws_13"
  refine w_iteT rfl ?_
  walk_at "ws_13"
  refine ⟨a, rfl, z, fun p H1 k1 np hp => ?_⟩
  walk_at "ws_13"
  refine ⟨_, _, All, rfl, hp, fun H2 k2 => ?_⟩
  walk_at "ws_13"
  rw [hl]
  refine w_iteF rfl ?_
  walk_at "ws_13"
  exact q p H2 (k1.trans k2) np (hp.keep k2.of0)
end LB

open PySem PySem.Spec PyProof.Rows L2 LB
/-! the tactic: one step of a reading; many -/
local macro_rules | `(tactic| walk_at "w1_14") => `(tactic| first
  | with_reducible refine w_seq ?_ | with_reducible refine w_asg ?_ | with_reducible refine w_drop ?_ | with_reducible refine w_ret ?_ | with_reducible refine w_next ?_
  | with_reducible refine w_ifs ?_ | with_reducible refine w_forR1 ?_ | with_reducible refine w_forR2 ?_ | with_reducible refine w_forL ?_ | with_reducible refine w_forT ?_ | with_reducible refine w_name ?_ | with_reducible refine w_sub ?_ | with_reducible refine w_par ?_
  | with_reducible refine w_var (by with_unfolding_all rfl) ?_ | with_reducible refine w_c ?_ | with_reducible refine w_op ?_ | with_reducible refine w_un ?_
  | with_reducible refine w_test ?_ | with_reducible refine w_tb ?_ | with_reducible refine w_nil ?_ | with_reducible refine w_cons ?_ | with_reducible refine w_cb ?_ | with_reducible refine w_call ?_
  | with_reducible refine w_not ?_ | with_reducible refine w_and ?_ | with_reducible refine w_or ?_ | with_reducible refine w_andV ?_ | with_reducible refine w_orV ?_ | with_reducible refine w_notV ?_
  | with_reducible refine w_ife ?_ | with_reducible refine w_chain ?_ | with_reducible refine w_bm ?_ | with_reducible refine w_sl ?_ | with_reducible refine w_part ?_ | with_reducible refine w_nopart ?_
  | with_reducible refine w_exb ?_ | with_reducible refine w_exi ?_ | with_reducible refine w_ex2 ?_ | with_reducible refine w_ex3 ?_ | with_reducible refine w_lstrg ?_ | with_reducible refine w_rg2 ?_ | with_reducible refine w_rg1 ?_ | with_reducible refine w_exij ?_ | with_reducible refine w_tup ?_ | with_reducible refine w_lst ?_
  | with_reducible refine o_add ?_ | with_reducible refine o_sub ?_ | with_reducible refine o_neg ?_ | with_reducible refine o_lt ?_ | with_reducible refine o_le ?_ | with_reducible refine o_gt ?_ | with_reducible refine o_ge ?_
  | with_reducible refine o_ixL (by assumption) (by decide) (by with_unfolding_all rfl) ?_ | with_reducible refine o_ixT (by assumption) (by decide) (by with_unfolding_all rfl) ?_
  | with_reducible refine o_mod (by first | decide | omega) ?_ | with_reducible refine o_mul (by first | decide | omega) ?_ | with_reducible refine o_fdv (by first | decide | omega) (by first | decide | omega) ?_ | with_reducible refine o_setL (by assumption) (by decide) (by simp) ?_
  | with_reducible refine oo_addi ?_ | with_reducible refine oo_sub ?_ | with_reducible refine oo_neg ?_ | with_reducible refine w_rev ?_ | with_reducible refine w_m0 ?_
  | with_reducible refine w_par3 ?_ | with_reducible refine w_tyl (by assumption) ?_
  | with_reducible refine o_abs ?_ | with_reducible refine o_eqs (by with_unfolding_all rfl) ?_ | with_reducible refine o_nes (by with_unfolding_all rfl) ?_ | with_reducible refine o_max2 ?_ | with_reducible refine o_min2 ?_ | with_reducible refine o_isiX (by assumption) ?_ | with_reducible refine o_lenl (by assumption) ?_ | with_reducible refine o_lent (by assumption) ?_ | with_reducible refine o_int1b ?_)
local macro_rules | `(tactic| walk_at "ws_14") => `(tactic| repeat (first | walk_at "w1_14" | dsimp only [List.set_cons_zero, List.set_cons_succ]))
namespace LB
/-! ### draw for great numbers -/
abbrev rFdvW : R2 := rI CDivW fun i j => .int (i / j)
def spDrawW : Sp := fun vs H Q _ => ∃ (p : Addr) (m : Int) (n : Nat), vs = [.ref p, .int m] ∧ Pot H p (n + 1) ∧ 1 ≤ m ∧ m < 2 ^ 62 ∧
  ∀ (H' : Hp) (k : Int), Keep (At p) H H' → Pot H' p n → 0 ≤ k → k < m → Q (.int k) H'
theorem spDrawW_arity {vs : List V} {H : Hp} {Q : VK} {E : XK} (h : spDrawW vs H Q E) : vs.length = 2 := by obtain ⟨_, _, _, rfl, _⟩ := h; rfl
theorem o_drawW {H : Hp} {Q : VK} {E : XK} {p : Addr} {m : Int} {N : Nat} (pt : Pot H p N) (hN : 1 ≤ N) (h1 : 1 ≤ m) (h2 : m < 2 ^ 62)
    (q : ∀ (H' : Hp) (k : Int), Keep (At p) H H' → Pot H' p (N - 1) → 0 ≤ k → k < m → Q (.int k) H') : spDrawW [.ref p, .int m] H Q E :=
  ⟨p, m, N - 1, rfl, pt.le (by omega), h1, h2, q⟩
def tW__law_draw_1 (K : PySem.W.Frag) : TS :=
  (tSeq (tAsg (tOp rModI (tOp (rIx K) (tVar 0) (tC (V.int 0))) (tVar 1)) (gName 2))
    (tSeq (tAsg (tOp rFdvW (tOp (rIx K) (tVar 0) (tC (V.int 0))) (tVar 1)) (gSub (tVar 0) (tC (V.int 0)) rSetL))
    (tRet (tVar 2))))

def tW__law_draw (K : PySem.W.Frag) : TS :=
  (tSeq (tIfS (tTest (tOp rGtI (tOp (rIx K) (tVar 0) (tC (V.int 0))) (tC (V.int 0))))
    (tW__law_draw_1 K) tNext)
    (tSeq (tAsg (tOp (rAddA K) (tOp (rIx K) (tVar 0) (tC (V.int 2))) (tC (V.int 1))) (gSub (tVar 0) (tC (V.int 2)) rSetL))
    (tSeq (tAsg (tOp (rIx K) (tLst (tCons (tC (V.int 2147483647)) (tCons (tC (V.int 2147483629)) (tCons (tC (V.int 2147483587)) (tCons (tC (V.int 2147483579)) (tCons (tC (V.int 2147483563)) tNil)))))) (tOp rModI (tOp (rIx K) (tVar 0) (tC (V.int 2))) (tC (V.int 5)))) (gName 3))
    (tSeq (tAsg (tOp rModI (tOp rPowI (tOp (rAddA K) (tOp (rAddA K) (tOp (rIx K) (tVar 0) (tC (V.int 1))) (tOp (rMulA K) (tOp (rMulA K) (tC (V.int 98321)) (tOp (rIx K) (tVar 0) (tC (V.int 2)))) (tOp (rIx K) (tVar 0) (tC (V.int 2))))) (tC (V.int 47))) (tC (V.int 3))) (tVar 3)) (gName 4))
    (tRet (tOp rModI (tOp rFdvI (tOp rModI (tOp (rMulA K) (tVar 4) (tOp (rAddA K) (tOp rModI (tVar 4) (tC (V.int 10007))) (tOp (rMulA K) (tC (V.int 89)) (tOp (rIx K) (tVar 0) (tC (V.int 2)))))) (tC (V.int 2305843009213693907))) (tC (V.int 83))) (tVar 1)))))))

theorem o_fdvW {i j : Int} {H : Hp} {Q : VK} (e : CDivW i j) (h : Q (.int (i / j)) H) : rFdvW (.int i) (.int j) H Q := ⟨i, j, rfl, rfl, e, h⟩
theorem pureW__law_draw {K : PySem.W.Frag} {vs : List V} {H : Hp} {Q : VK} {E : XK} (h : spDrawW vs H Q E) : tW__law_draw K { nx := fun _ H' => Q .non H', rt := Q } (start ["pot", "many", "digit", "prime", "mixed"] vs) H := by
  obtain ⟨p, m, n, rfl, ⟨a, b, c, hp, ha, hb, hc, hn⟩, h1, h2, q⟩ := h
  show tW__law_draw K _ [some (.ref p), some (.int m), none, none, none] H
  unfold tW__law_draw
  walk_at "ws_14"
  refine w_ite (fun ca => ?_) (fun ca => ?_)
  · walk_at "ws_14"
    unfold tW__law_draw_1
    walk_at "ws_14"
    refine o_fdvW (wide_div (b := 63) (by omega) (by omega) (by decide) (by decide)) ?_
    walk_at "ws_14"
    have f1 : 0 ≤ a / m := Int.ediv_nonneg ha (by omega)
    have f2 : 0 ≤ a.fmod m := Int.fmod_nonneg_of_pos _ (by omega)
    have f3 : a.fmod m < m := Int.fmod_lt_of_pos _ (by omega)
    exact q _ _ (Keep.put (S := At p) rfl hp) ⟨_, _, _, upd_same, f1, hb, hc, by omega⟩ f2 f3
  · walk_at "ws_14"
    refine k_lst (by simp; decide) fun l H1 n1 => ?_
    have hp1 := n1.get (upd_same (H := H) (a := p) (o := .lst [.int a, .int b, .int (c + 1)]))
    walk_at "ws_14"
    have f5 : 0 ≤ (c + 1).fmod 5 := Int.fmod_nonneg_of_pos _ (by omega)
    have f6 : (c + 1).fmod 5 < 5 := Int.fmod_lt_of_pos _ (by omega)
    obtain ⟨z, ez, z1, z2⟩ := prime_at f5 f6
    refine o_ixL n1.at_ f5 ez ?_
    walk_at "ws_14"
    have mx := mix_ok hb.1 hb.2 (show 0 ≤ c + 1 by omega) (by omega)
    refine o_pow (pow3_ok mx.1 mx.2) ?_
    walk_at "ws_14"
    generalize (b + 98321 * (c + 1) * (c + 1) + 47) ^ (3 : Int).toNat = y
    have f7 : 0 ≤ y.fmod z := Int.fmod_nonneg_of_pos _ (by omega)
    have f8 : y.fmod z < z := Int.fmod_lt_of_pos _ (by omega)
    walk_at "ws_14"
    exact q _ _ ((Keep.put (S := At p) rfl hp).trans n1.keep) ⟨_, _, _, hp1, ha, hb, by omega, by omega⟩ (Int.fmod_nonneg_of_pos _ (by omega)) (Int.fmod_lt_of_pos _ (by omega))
theorem fng_draw {P : Program} {w : World} {K : PySem.W.Frag} {mg : Str → Option Value} {base : Heap} {CX : CXT} {k : Nat} {f : Addr} {fd : FuncData} {ps : List Str} (F : FnG P w K mg base CX k f fd ps spDrawW) : FnG P w K mg base CX k f fd ps spDraw :=
  have im : ∀ vs H Q E, spDraw vs H Q E → spDrawW vs H Q E := fun vs H Q E ⟨p, m, n, e, pt, h1, h2, q⟩ => ⟨p, m, n, e, pt, h1, by omega, q⟩
  ⟨fun vs H Q E h => F.arity vs H Q E (im _ _ _ _ h), fun A outer s H args us vs Q E r g e bn v h => F.goes A outer s H args us vs Q E r g e bn v (im _ _ _ _ h)⟩
end LB

open PySem PySem.Spec PyProof.Rows L2 LB StX
/-! the tactic: one step of a reading; many -/
local macro_rules | `(tactic| walk_at "w1_15") => `(tactic| first
  | with_reducible refine w_seq ?_ | with_reducible refine w_asg ?_ | with_reducible refine w_drop ?_ | with_reducible refine w_ret ?_ | with_reducible refine w_next ?_
  | with_reducible refine w_ifs ?_ | with_reducible refine w_forR1 ?_ | with_reducible refine w_forR2 ?_ | with_reducible refine w_forL ?_ | with_reducible refine w_forT ?_ | with_reducible refine w_name ?_ | with_reducible refine w_sub ?_ | with_reducible refine w_par ?_
  | with_reducible refine w_var (by with_unfolding_all rfl) ?_ | with_reducible refine w_c ?_ | with_reducible refine w_op ?_ | with_reducible refine w_un ?_
  | with_reducible refine w_test ?_ | with_reducible refine w_tb ?_ | with_reducible refine w_nil ?_ | with_reducible refine w_cons ?_ | with_reducible refine w_cb ?_ | with_reducible refine w_call ?_
  | with_reducible refine w_not ?_ | with_reducible refine w_and ?_ | with_reducible refine w_or ?_ | with_reducible refine w_andV ?_ | with_reducible refine w_orV ?_ | with_reducible refine w_notV ?_
  | with_reducible refine w_ife ?_ | with_reducible refine w_chain ?_ | with_reducible refine w_bm ?_ | with_reducible refine w_sl ?_ | with_reducible refine w_part ?_ | with_reducible refine w_nopart ?_
  | with_reducible refine w_exb ?_ | with_reducible refine w_exi ?_ | with_reducible refine w_ex2 ?_ | with_reducible refine w_ex3 ?_ | with_reducible refine w_lstrg ?_ | with_reducible refine w_rg2 ?_ | with_reducible refine w_rg1 ?_ | with_reducible refine w_exij ?_ | with_reducible refine w_tup ?_ | with_reducible refine w_lst ?_
  | with_reducible refine o_add ?_ | with_reducible refine o_sub ?_ | with_reducible refine o_neg ?_ | with_reducible refine o_lt ?_ | with_reducible refine o_le ?_ | with_reducible refine o_gt ?_ | with_reducible refine o_ge ?_
  | with_reducible refine o_ixL (by assumption) (by decide) (by with_unfolding_all rfl) ?_ | with_reducible refine o_ixT (by assumption) (by decide) (by with_unfolding_all rfl) ?_
  | with_reducible refine o_mod (by first | decide | omega) ?_ | with_reducible refine o_mul (by first | decide | omega) ?_ | with_reducible refine o_fdv (by first | decide | omega) (by first | decide | omega) ?_ | with_reducible refine o_setL (by assumption) (by decide) (by simp) ?_
  | with_reducible refine oo_addi ?_ | with_reducible refine oo_sub ?_ | with_reducible refine oo_neg ?_ | with_reducible refine w_rev ?_ | with_reducible refine w_m0 ?_
  | with_reducible refine w_par3 ?_ | with_reducible refine w_tyl (by assumption) ?_
  | with_reducible refine o_abs ?_ | with_reducible refine o_eqs (by with_unfolding_all rfl) ?_ | with_reducible refine o_nes (by with_unfolding_all rfl) ?_ | with_reducible refine o_max2 ?_ | with_reducible refine o_min2 ?_ | with_reducible refine o_isiX (by assumption) ?_ | with_reducible refine o_lenl (by assumption) ?_ | with_reducible refine o_lent (by assumption) ?_ | with_reducible refine o_int1b ?_)
local macro_rules | `(tactic| walk_at "ws_15") => `(tactic| repeat (first | walk_at "w1_15" | dsimp only [List.set_cons_zero, List.set_cons_succ]))
namespace LB
/-! ### a log drawn row by row -/
def cells (i : Nat) (o : Op) : List Str := [padR 3 (toString (i : Int)), padL 5 (kindS o.w), padR 10 (toString o.v), padR 17 (toString o.b), padR 17 (toString o.e)]
def chartRow (i : Nat) (o : Op) : Str := Txt.join " " (cells i o)
def o0 : Op := ⟨true, 0, 0, 0⟩
def chartS (ops : List Op) : Str := Txt.join "\n" ((List.range ops.length).map fun i => chartRow i (ops.getD i o0))
def spChart : Sp := fun vs H Q _ => ∃ (t : Addr) (ops : List Op), vs = [.ref t] ∧ LogAt H t ops ∧ ops.length ≤ 200 ∧ (∀ o ∈ ops, o.ok) ∧ ∀ H1, Keep NoS H H1 → Q (.str (chartS ops)) H1
theorem spChart_arity {vs : List V} {H : Hp} {Q : VK} {E : XK} (h : spChart vs H Q E) : vs.length = 1 := by obtain ⟨_, _, rfl, _⟩ := h; rfl
def spFilled : Sp := fun vs H Q _ => ∃ (y : Str) (n : Nat) (b : Bool), vs = [.str y, .int n, .bl b] ∧ y.length ≤ 100 ∧ n ≤ 100 ∧ Q (.str (if b = true then padL n y else padR n y)) H
theorem spFilled_arity {vs : List V} {H : Hp} {Q : VK} {E : XK} (h : spFilled vs H Q E) : vs.length = 3 := by obtain ⟨_, _, _, rfl, _⟩ := h; rfl
def spFar : Sp := fun vs H Q _ => ∃ (p : Addr) (many : Nat) (N : Nat), vs = [.ref p, .int many] ∧ Pot H p N ∧ many ≤ 200 ∧ 8 * many + 8 ≤ N ∧
  ∀ (H' : Hp) (t : Addr) (ops : List Op), Keep (At p) H H' → Pot H' p (N - (8 * many + 8)) → DD All H' (.ref t) (.tuple (ops.map Op.dat)) → LogOk ops → ops.length = many → Q (.ref t) H'
theorem spFar_arity {vs : List V} {H : Hp} {Q : VK} {E : XK} (h : spFar vs H Q E) : vs.length = 2 := by obtain ⟨_, _, _, rfl, _⟩ := h; rfl
def t_chart (K : PySem.W.Frag) : TS :=
  (tRet (tM1 (rJoin K) (tC (V.str "\n")) (tLc (iEnA K (tCons (tVar 0) tNil)) (gTup K 2 (gCons (gName 1) (gCons (gTup K 4 (gCons (gName 2) (gCons (gName 3) (gCons (gName 4) (gCons (gName 5) gNil))))) gNil))) tYes (tJ [(tFmtI 3 (tVar 1)), (tC (V.str " ")), (tFmtS 5 (tVar 2)), (tC (V.str " ")), (tFmtI 10 (tVar 3)), (tC (V.str " ")), (tFmtI 17 (tVar 4)), (tC (V.str " ")), (tFmtI 17 (tVar 5))]) [1, 2, 3, 4, 5])))

def t__law_filled (K : PySem.W.Frag) : TS :=
  (tSeq (tAsg (tOp rMulS (tC (V.str " ")) (tOp rSubI (tVar 1) (tCB (rLen K) (tCons (tVar 0) tNil)))) (gName 3))
    (tRet (tIf (tTr K (tVar 2)) (tOp (rAddA K) (tVar 0) (tVar 3)) (tOp (rAddA K) (tVar 3) (tVar 0)))))

def t__law_lines_1 (K : PySem.W.Frag) : TS :=
  (tSeq (tAsg (tLst (tCons (tCall spFilled [] E0 (tCons (tCB rStrS (tCons (tVar 2) tNil)) (tCons (tC (V.int 3)) (tCons (tC (V.bl false)) tNil)))) (tCons (tCall spFilled [] E0 (tCons (tVar 3) (tCons (tC (V.int 5)) (tCons (tC (V.bl true)) tNil)))) (tCons (tCall spFilled [] E0 (tCons (tCB rStrS (tCons (tVar 4) tNil)) (tCons (tC (V.int 10)) (tCons (tC (V.bl false)) tNil)))) tNil)))) (gName 7))
    (tDrop (tBM K "list" rAppend (tVar 1) (tCons (tM1 (rJoin K) (tC (V.str " ")) (tOp (rAddA K) (tVar 7) (tLst (tCons (tCall spFilled [] E0 (tCons (tCB rStrS (tCons (tVar 5) tNil)) (tCons (tC (V.int 17)) (tCons (tC (V.bl false)) tNil)))) (tCons (tCall spFilled [] E0 (tCons (tCB rStrS (tCons (tVar 6) tNil)) (tCons (tC (V.int 17)) (tCons (tC (V.bl false)) tNil)))) tNil))))) tNil))))

def t__law_lines (K : PySem.W.Frag) : TS :=
  (tSeq (tAsg (tLst tNil) (gName 1))
    (tSeq (tFor (iEnA K (tCons (tVar 0) tNil)) (gTup K 2 (gCons (gName 2) (gCons (gTup K 4 (gCons (gName 3) (gCons (gName 4) (gCons (gName 5) (gCons (gName 6) gNil))))) gNil)))
    (t__law_lines_1 K))
    (tRet (tM1 (rJoin K) (tC (V.str "\n")) (tVar 1)))))

def t__law_far_1 (K : PySem.W.Frag) : TS :=
  (tSeq (tAsg (tLst (tCons (tUn rNegI (tOp rPowI (tC (V.int 10)) (tC (V.int 15)))) (tCons (tOp rPowI (tC (V.int 10)) (tC (V.int 15))) (tCons (tC (V.int 0)) (tCons (tOp rSubI (tOp rPowI (tC (V.int 10)) (tC (V.int 15))) (tCall spDrawW [] E0 (tCons (tVar 0) (tCons (tOp rPowI (tC (V.int 10)) (tC (V.int 15))) tNil)))) (tCons (tOp rSubI (tC (V.int 0)) (tCall spDrawW [] E0 (tCons (tVar 0) (tCons (tOp rPowI (tC (V.int 10)) (tC (V.int 15))) tNil)))) tNil)))))) (gName 4))
    (tSeq (tAsg (tCall (spAny K) [] E0 (tCons (tVar 0) (tCons (tVar 4) tNil))) (gName 5))
    (tSeq (tAsg (tCall (spAny K) [] E0 (tCons (tVar 0) (tCons (tLst (tCons (tVar 5) (tCons (tOp rPowI (tC (V.int 10)) (tC (V.int 15))) (tCons (tCB rMin2 (tCons (tOp rPowI (tC (V.int 10)) (tC (V.int 15))) (tCons (tOp (rAddA K) (tVar 5) (tCall spDrawW [] E0 (tCons (tVar 0) (tCons (tC (V.int 99)) tNil)))) tNil))) tNil)))) tNil))) (gName 6))
    (tSeq (tAsg (tCall (spAny K) [] E0 (tCons (tVar 0) (tCons (tLst (tCons (tC (V.str "write")) (tCons (tC (V.str "read")) tNil))) tNil))) (gName 7))
    (tDrop (tBM K "list" rAppend (tVar 2) (tCons (tTup (tCons (tVar 7) (tCons (tIf (tTest (tOp (rEqA K) (tVar 7) (tC (V.str "write")))) (tOp rSubI (tOp rPowI (tC (V.int 10)) (tC (V.int 9))) (tVar 3)) (tCall (spAny K) [] E0 (tCons (tVar 0) (tCons (tLst (tCons (tC (V.int 0)) (tCons (tOp rPowI (tC (V.int 10)) (tC (V.int 9))) tNil))) tNil)))) (tCons (tVar 5) (tCons (tVar 6) tNil))))) tNil)))))))

def t__law_far (K : PySem.W.Frag) : TS :=
  (tSeq (tAsg (tLst tNil) (gName 2))
    (tSeq (tFor (iRng1 (tCons (tVar 1) tNil)) (gName 3)
    (t__law_far_1 K))
    (tRet (tCB (rTupOf K) (tCons (tVar 2) tNil)))))
theorem padR_le {n : Nat} {y : Str} (h : y.length ≤ 100) (hn : n ≤ 100) : (padR n y).length ≤ 100 := by rw [padR_len]; omega
theorem padL_le {n : Nat} {y : Str} (h : y.length ≤ 100) (hn : n ≤ 100) : (padL n y).length ≤ 100 := by rw [padL_len]; omega
theorem int_le {i : Int} (h : i.natAbs < 10 ^ 20) : (Str.ofString (toString i)).length ≤ 100 := by
  have := intL_few (by decide) h; rw [len_int]; omega
theorem cells_le {i : Nat} {o : Op} (hi : i ≤ 1000) (h : o.ok) : ∀ x ∈ cells i o, x.length ≤ 100 := by
  obtain ⟨h1, h2, h3⟩ := Op.small h
  have hb : (10 : Nat) ^ 20 = 100000000000000000000 := by decide
  intro x hx
  simp only [cells, List.mem_cons, List.not_mem_nil, or_false] at hx
  rcases hx with rfl | rfl | rfl | rfl | rfl
  · exact padR_le (int_le (by rw [Int.natAbs_natCast]; omega)) (by decide)
  · exact padL_le (Nat.le_trans (kindS_len _) (by decide)) (by decide)
  · exact padR_le (int_le h1) (by decide)
  · exact padR_le (int_le h2) (by decide)
  · exact padR_le (int_le h3) (by decide)
theorem chartRow_len {i : Nat} {o : Op} (hi : i ≤ 1000) (h : o.ok) : (chartRow i o).length ≤ 505 := by
  have h1 := join_len " " (cells i o)
  have h2 := sum_le (cells_le hi h)
  have h3 : (cells i o).length = 5 := rfl
  rw [h3] at h1 h2
  rw [show ((" " : Str)).length = 1 from rfl] at h1
  exact Nat.le_trans h1 (by omega)
theorem chart_fits {ops : List Op} (few : ops.length ≤ 200) (ok : ∀ o ∈ ops, o.ok) : (((List.range ops.length).map fun i => chartRow i (ops.getD i o0)).map (·.length)).sum + ((List.range ops.length).map fun i => chartRow i (ops.getD i o0)).length * (("\n" : Str)).length ≤ 16777216 := by
  have h := sum_le (l := (List.range ops.length).map fun i => chartRow i (ops.getD i o0)) (b := 505) fun x hx => by
    obtain ⟨i, hi, rfl⟩ := List.mem_map.mp hx
    have hi := List.mem_range.mp hi
    refine chartRow_len (by omega) (ok _ ?_)
    have e : ops[i]? = some ops[i] := List.getElem?_eq_getElem hi
    rw [getD_of e]; exact List.getElem_mem _
  rw [List.length_map, List.length_range] at h ⊢
  rw [show (("\n" : Str)).length = 1 from rfl]
  omega
theorem w_gOp {K : PySem.W.Frag} {i a b c d : Nat} {T u : Addr} {n : Nat} {o : Op} {σ : LB.St} {H : Hp} {Qn : LB.St → Hp → Prop} (e : H T = some (.tup [.int n, .ref u])) (hu : H u = some (opT o))
    (h : Qn (((((σ.set i (some (.int n))).set a (some (.str (kindS o.w)))).set b (some (.int o.v))).set c (some (.int o.b))).set d (some (.int o.e))) H) :
    gTup K 2 (gCons (gName i) (gCons (gTup K 4 (gCons (gName a) (gCons (gName b) (gCons (gName c) (gCons (gName d) gNil))))) gNil)) (.ref T) σ H Qn :=
  ⟨T, [.int n, .ref u], rfl, .inl (.inl e), rfl, .int n, [.ref u], rfl, .ref u, [], rfl, u, _, rfl, .inl (.inl hu), rfl, _, _, rfl, _, _, rfl, _, _, rfl, _, _, rfl, rfl, rfl, h⟩
theorem row_cells (i : Nat) (o : Op) : Str.empty ++ padR 3 (toString (i : Int)) ++ " " ++ padL 5 (kindS o.w) ++ " " ++ padR 10 (toString o.v) ++ " " ++ padR 17 (toString o.b) ++ " " ++ padR 17 (toString o.e) = chartRow i o := by
  refine TL.ext_tl ?_
  unfold chartRow cells
  rw [TL.join_eq, TL.tl_join]
  simp only [TL.tl_append, TL.joinL, List.map_cons, List.map_nil, List.append_assoc]
  rfl
theorem pure_chart {K : PySem.W.Frag} {vs : List V} {H : Hp} {Q : VK} {E : XK} (h : spChart vs H Q E) : t_chart K { nx := fun _ H' => Q .non H', rt := Q } (start ["log", "index", "kind", "value", "begin", "end"] vs) H := by
  obtain ⟨t, ops, rfl, lg, few, ok, q⟩ := h
  show t_chart K _ [some (.ref t), none, none, none, none, none] H
  unfold t_chart
  obtain ⟨xs, hx, hl, hxs⟩ := id lg
  walk_at "ws_15"
  refine w_m1 ?_
  walk_at "ws_15"
  refine w_tys ?_
  refine w_lcEnT (by with_unfolding_all rfl) hx fun D hD => ⟨fun n H' => Keep NoS H H' ∧ H' D = some (.lst (((List.range n).map fun i => chartRow i (ops.getD i o0)).map V.str)), ⟨Keep.new hD, upd_same⟩, fun n H' _ h => h.1.tup _ _ hx, ?_, ?_⟩
  · rintro n x H1 H2 T hn ⟨k1, hb⟩ n2
    have ln : n < ops.length := by
      by_cases z : n < xs.length
      · omega
      · rw [List.getElem?_eq_none (by omega)] at hn; cases hn
    have eo : ops[n]? = some ops[n] := List.getElem?_eq_getElem ln
    obtain ⟨u, eu, hu⟩ := hxs n _ eo
    rw [hn] at eu
    cases eu
    have hok := ok _ (List.getElem_mem ln)
    generalize ops[n] = o at eo hu hok
    obtain ⟨h1, h2, h3⟩ := Op.small hok
    have hb20 : (10 : Nat) ^ 20 = 100000000000000000000 := by decide
    have h0 : (n : Int).natAbs < 10 ^ 20 := by rw [Int.natAbs_natCast]; omega
    refine w_gOp n2.at_ (n2.get (k1.tup _ _ hu)) ⟨rfl, ?_⟩
    simp only [tYes, if_true]
    have hb2 := n2.get hb
    have c := cells_le (i := n) (o := o) (by omega) hok
    simp only [cells, List.mem_cons, List.not_mem_nil, or_false, forall_eq_or_imp, forall_eq] at c
    obtain ⟨c1, c2, c3, c4, c5⟩ := c
    have s1 : ((" " : Str)).length = 1 := rfl
    have s0 : (Str.empty).length = 0 := rfl
    refine ⟨.int n, rfl, n, rfl, log_of h0, by have := intL_few (by decide) h0; omega, _, rfl, by rw [Str.length_append, sizeLine_eq]; omega, ?_⟩
    refine ⟨_, rfl, by simp only [Str.length_append]; rw [sizeLine_eq]; omega, ?_⟩
    refine ⟨.str (kindS o.w), rfl, _, rfl, Nat.le_trans (kindS_len _) (by decide), _, rfl, by simp only [Str.length_append]; rw [sizeLine_eq]; omega, ?_⟩
    refine ⟨_, rfl, by simp only [Str.length_append]; rw [sizeLine_eq]; omega, ?_⟩
    refine ⟨.int o.v, rfl, _, rfl, log_of h1, by have := intL_few (by decide) h1; omega, _, rfl, by simp only [Str.length_append]; rw [sizeLine_eq]; omega, ?_⟩
    refine ⟨_, rfl, by simp only [Str.length_append]; rw [sizeLine_eq]; omega, ?_⟩
    refine ⟨.int o.b, rfl, _, rfl, log_of h2, by have := intL_few (by decide) h2; omega, _, rfl, by simp only [Str.length_append]; rw [sizeLine_eq]; omega, ?_⟩
    refine ⟨_, rfl, by simp only [Str.length_append]; rw [sizeLine_eq]; omega, ?_⟩
    refine ⟨.int o.e, rfl, _, rfl, log_of h3, by have := intL_few (by decide) h3; omega, _, rfl, by simp only [Str.length_append]; rw [sizeLine_eq]; omega, ?_⟩
    refine ⟨_, hb2, by rw [List.length_map, List.length_map, List.length_range, sizeLine_eq]; omega, (k1.trans n2.keep).put0 hD hb2, ?_⟩
    have er := row_cells n o
    rw [List.range_succ, List.map_append, List.map_append]
    refine upd_same.trans ?_
    show some (HO.lst (_ ++ [V.str _])) = some (HO.lst (_ ++ [V.str (chartRow n (ops.getD n o0))]))
    rw [getD_of eo, ← er]
  · rintro H1 ⟨k1, hb⟩
    rw [hl] at hb
    exact o_join hb (chart_fits few ok) (q H1 k1)
theorem o_muls {H : Hp} {Q : VK} {n : Int} (h0 : -1000 ≤ n) (h1 : n ≤ 1000) (h : Q (.str (blanks n.toNat)) H) : rMulS (.str " ") (.int n) H Q := ⟨n, rfl, rfl, h0, h1, h⟩
theorem pure__law_filled {K : PySem.W.Frag} {vs : List V} {H : Hp} {Q : VK} {E : XK} (h : spFilled vs H Q E) : t__law_filled K { nx := fun _ H' => Q .non H', rt := Q } (start ["word", "wide", "is_left", "room"] vs) H := by
  obtain ⟨y, n, b, rfl, hy, hn, q⟩ := h
  show t__law_filled K _ [some (.str y), some (.int n), some (.bl b), none] H
  unfold t__law_filled
  walk_at "ws_15"
  refine o_len (n := y.length) ⟨by rw [sizeLine_eq]; omega, rfl⟩ ?_
  walk_at "ws_15"
  refine o_muls (by omega) (by omega) ?_
  walk_at "ws_15"
  have et : ((n : Int) - (y.length : Int)).toNat = n - y.length := by omega
  rw [et]
  refine ⟨.bl b, by with_unfolding_all rfl, b, rfl, ?_⟩
  cases b with
  | true =>
    refine w_iteT rfl ?_
    walk_at "ws_15"
    exact o_adds (by rw [len_blanks, sizeLine_eq]; omega) q
  | false =>
    refine w_iteF rfl ?_
    walk_at "ws_15"
    exact o_adds (by rw [len_blanks, sizeLine_eq]; omega) q
theorem o_fill {H : Hp} {Q : VK} {E : XK} {y : Str} {n : Nat} {b : Bool} (hy : y.length ≤ 100) (hn : n ≤ 100) (q : Q (.str (if b = true then padL n y else padR n y)) H) : spFilled [.str y, .int n, .bl b] H Q E := ⟨y, n, b, rfl, hy, hn, q⟩
def LinesI (t f : Addr) (ops : List Op) (H : Hp) (i : Nat) (σ : LB.St) (H' : Hp) : Prop := ∃ x2 x3 x4 x5 x6 x7 : Option V,
  σ = [some (.ref t), some (.ref f), x2, x3, x4, x5, x6, x7] ∧ Keep NoS H H' ∧ H' f = some (.lst (((List.range i).map fun n => chartRow n (ops.getD n o0)).map V.str))
theorem pure__law_lines {K : PySem.W.Frag} {vs : List V} {H : Hp} {Q : VK} {E : XK} (h : spChart vs H Q E) : t__law_lines K { nx := fun _ H' => Q .non H', rt := Q } (start ["log", "found", "at", "kind", "worth", "early", "late", "some"] vs) H := by
  obtain ⟨t, ops, rfl, lg, few, ok, q⟩ := h
  show t__law_lines K _ [some (.ref t), none, none, none, none, none, none, none] H
  unfold t__law_lines
  obtain ⟨xs, hx, hl, hxs⟩ := id lg
  walk_at "ws_15"
  refine k_lst (by simp) fun f H1 n1 => ?_
  walk_at "ws_15"
  refine w_forEnT (xs := xs) (by with_unfolding_all rfl) (LinesI t f ops H) ?_ ?_ ?_ ?_
  · exact ⟨none, none, none, none, none, none, rfl, n1.keep, n1.at_⟩
  · rintro i σ H2 hi ⟨x2, x3, x4, x5, x6, x7, rfl, k2, hb⟩
    exact k2.tup _ _ hx
  · rintro n x σ H2 H3 T hn ⟨x2, x3, x4, x5, x6, x7, rfl, k2, hb⟩ n3
    have ln : n < ops.length := by
      by_cases z : n < xs.length
      · omega
      · rw [List.getElem?_eq_none (by omega)] at hn; cases hn
    have eo : ops[n]? = some ops[n] := List.getElem?_eq_getElem ln
    obtain ⟨u, eu, hu⟩ := hxs n _ eo
    rw [hn] at eu
    cases eu
    have hok := ok _ (List.getElem_mem ln)
    generalize ops[n] = o at eo hu hok
    obtain ⟨h1, h2, h3⟩ := Op.small hok
    have hb20 : (10 : Nat) ^ 20 = 100000000000000000000 := by decide
    have h0 : (n : Int).natAbs < 10 ^ 20 := by rw [Int.natAbs_natCast]; omega
    refine w_gOp n3.at_ (n3.get (k2.tup _ _ hu)) ?_
    simp only [List.set_cons_zero, List.set_cons_succ]
    unfold t__law_lines_1
    walk_at "ws_15"
    refine o_stri (log_of h0) ?_
    walk_at "ws_15"
    refine o_fill (n := 3) (int_le h0) (by decide) ?_
    walk_at "ws_15"
    refine o_fill (n := 5) (Nat.le_trans (kindS_len _) (by decide)) (by decide) ?_
    walk_at "ws_15"
    refine o_stri (log_of h1) ?_
    walk_at "ws_15"
    refine o_fill (n := 10) (int_le h1) (by decide) ?_
    walk_at "ws_15"
    refine k_lst (by simp; decide) fun c H4 n4 => ?_
    walk_at "ws_15"
    have hb4 := n4.get (n3.get hb)
    refine w_tyl hb4 ?_
    walk_at "ws_15"
    refine w_m1 ?_
    walk_at "ws_15"
    refine w_tys ?_
    walk_at "ws_15"
    refine o_stri (log_of h2) ?_
    walk_at "ws_15"
    refine o_fill (n := 17) (int_le h2) (by decide) ?_
    walk_at "ws_15"
    refine o_stri (log_of h3) ?_
    walk_at "ws_15"
    refine o_fill (n := 17) (int_le h3) (by decide) ?_
    walk_at "ws_15"
    refine k_lst (by simp; decide) fun d H5 n5 => ?_
    refine o_addl (n5.get n4.at_) n5.at_ (by simp; decide) fun e H6 n6 => ?_
    have c := cells_le (i := n) (o := o) (by omega) hok
    have hs := sum_le c
    refine o_join (ys := cells n o) n6.at_ (by
      rw [show (cells n o).length = 5 from rfl] at hs ⊢
      rw [show ((" " : Str)).length = 1 from rfl]; omega) ?_
    walk_at "ws_15"
    have hb6 := n6.get (n5.get hb4)
    refine o_app hb6 (by rw [List.length_map, List.length_map, List.length_range, sizeLine_eq]; omega) fun H7 p7 => ?_
    walk_at "ws_15"
    refine ⟨_, _, _, _, _, _, rfl, ?_, ?_⟩
    · have k6 : Keep NoS H H6 := k2.trans (n3.keep.trans (n4.keep.trans (n5.keep.trans n6.keep)))
      exact p7.keep0 k6 n1.no hb6
    · rw [List.range_succ, List.map_append, List.map_append]
      refine p7.at_.trans ?_
      show some (HO.lst (_ ++ [V.str _])) = some (HO.lst (_ ++ [V.str (chartRow n (ops.getD n o0))]))
      rw [getD_of eo]; rfl
  · rintro σ H2 ⟨x2, x3, x4, x5, x6, x7, rfl, k2, hb⟩
    walk_at "ws_15"
    refine w_m1 ?_
    walk_at "ws_15"
    refine w_tys ?_
    walk_at "ws_15"
    rw [hl] at hb
    exact o_join hb (chart_fits few ok) (q H2 k2)
theorem o_pow15 {H : Hp} {Q : VK} (q : Q (.int 1000000000000000) H) : rPowI (.int 10) (.int 15) H Q := o_pow ⟨by decide, by decide +kernel⟩ (by rw [show (10 : Int) ^ (15 : Int).toNat = 1000000000000000 by decide +kernel]; exact q)
theorem o_pow9 {H : Hp} {Q : VK} (q : Q (.int 1000000000) H) : rPowI (.int 10) (.int 9) H Q := o_pow ⟨by decide, by decide +kernel⟩ (by rw [show (10 : Int) ^ (9 : Int).toNat = 1000000000 by decide +kernel]; exact q)
theorem early_any {d1 d2 : Int} {i : Nat} {v : V} (h : [V.int (-1000000000000000), V.int 1000000000000000, V.int 0, V.int (1000000000000000 - d1), V.int (0 - d2)][i]? = some v)
    (a0 : 0 ≤ d1) (a1 : d1 < 1000000000000000) (b0 : 0 ≤ d2) (b1 : d2 < 1000000000000000) : ∃ z : Int, v = .int z ∧ -1000000000000000 ≤ z ∧ z ≤ 1000000000000000 := by
  match i, h with
  | 0, h => exact ⟨_, (Option.some.inj h).symm, by omega, by omega⟩
  | 1, h => exact ⟨_, (Option.some.inj h).symm, by omega, by omega⟩
  | 2, h => exact ⟨_, (Option.some.inj h).symm, by omega, by omega⟩
  | 3, h => exact ⟨_, (Option.some.inj h).symm, by omega, by omega⟩
  | 4, h => exact ⟨_, (Option.some.inj h).symm, by omega, by omega⟩
theorem late_any {e d : Int} {i : Nat} {v : V} (h : [V.int e, V.int 1000000000000000, V.int (if e + d < 1000000000000000 then e + d else 1000000000000000)][i]? = some v)
    (a0 : 0 ≤ d) (a1 : e ≤ 1000000000000000) : ∃ z : Int, v = .int z ∧ e ≤ z ∧ z ≤ 1000000000000000 := by
  match i, h with
  | 0, h => exact ⟨_, (Option.some.inj h).symm, by omega, by omega⟩
  | 1, h => exact ⟨_, (Option.some.inj h).symm, by omega, by omega⟩
  | 2, h => exact ⟨_, (Option.some.inj h).symm, by split <;> omega, by split <;> omega⟩
theorem kind2_any {i : Nat} {v : V} (h : [V.str "write", V.str "read"][i]? = some v) : ∃ w, v = .str (kindS w) := by
  match i, h with
  | 0, h => exact ⟨true, (Option.some.inj h).symm⟩
  | 1, h => exact ⟨false, (Option.some.inj h).symm⟩
theorem zero_any {i : Nat} {v : V} (h : [V.int 0, V.int 1000000000][i]? = some v) : ∃ z : Int, v = .int z ∧ 0 ≤ z ∧ z ≤ 1000000000 := by
  match i, h with
  | 0, h => exact ⟨_, (Option.some.inj h).symm, by omega, by omega⟩
  | 1, h => exact ⟨_, (Option.some.inj h).symm, by omega, by omega⟩
def FarI (p f : Addr) (many : Nat) (H : Hp) (N i : Nat) (σ : LB.St) (H' : Hp) : Prop := ∃ (ops : List Op) (xs : List V) (x3 x4 x5 x6 x7 : Option V),
      σ = [some (.ref p), some (.int many), some (.ref f), x3, x4, x5, x6, x7] ∧ Keep (At p) H H' ∧ Pot H' p (N - 8 * i) ∧ H' f = some (.lst xs) ∧
      DDs All H' xs (ops.map Op.dat) ∧ LogOk ops ∧ (∀ z ∈ wr ops, 1000000000 - (i : Int) < z) ∧ ops.length = i
theorem pure__law_far {K : PySem.W.Frag} {vs : List V} {H : Hp} {Q : VK} {E : XK} (h : spFar vs H Q E) : t__law_far K { nx := fun _ H' => Q .non H', rt := Q } (start ["pot", "many", "found", "turn", "some", "early", "late", "kind"] vs) H := by
  obtain ⟨p, many, N, rfl, pt, m1, hN, q⟩ := h
  show t__law_far K _ [some (.ref p), some (.int many), none, none, none, none, none, none] H
  unfold t__law_far
  walk_at "ws_15"
  refine k_lst (by simp) fun f H1 n1 => ?_
  walk_at "ws_15"
  have pf : p ≠ f := pt.ne n1.no
  refine k_R1 (by omega) (by omega) (FarI p f many H N) ?_ ?_ ?_
  · exact ⟨[], [], _, _, _, _, _, rfl, n1.keep, (pt.new n1).le (by omega), n1.at_, .nil, ⟨fun o ho => by (cases ho), List.Pairwise.nil⟩, fun z hz => by (cases hz), rfl⟩
  · rintro i σ H4 hi ⟨ops, xs, x3, x4, x5, x6, x7, rfl, kp, pt4, hf, hd, lo, hw, hl⟩
    have hi : i < many := by omega
    have hlx : xs.length = i := by rw [hd.length, List.length_map, hl]
    walk_at "ws_15"
    unfold t__law_far_1
    walk_at "ws_15"
    refine o_pow15 ?_
    walk_at "ws_15"
    refine o_pow15 ?_
    walk_at "ws_15"
    refine o_pow15 ?_
    walk_at "ws_15"
    refine o_pow15 ?_
    walk_at "ws_15"
    refine o_drawW pt4 (by omega) (by decide) (by decide) fun H5 d1 kp5 pt5 a0 a1 => ?_
    walk_at "ws_15"
    refine o_pow15 ?_
    walk_at "ws_15"
    refine o_drawW pt5 (by omega) (by decide) (by decide) fun H6 d2 kp6 pt6 b0 b1 => ?_
    walk_at "ws_15"
    refine k_lst (by simp; decide) fun c H7 n7 => ?_
    walk_at "ws_15"
    refine o_any (pt6.new n7) (by omega) (fun e => (pt6.ne n7.no) e.symm) (.inl n7.at_) (by simp) (by simp) fun H8 j v ev kp8 pt8 => ?_
    obtain ⟨be, rfl, be0, be1⟩ := early_any ev a0 a1 b0 b1
    walk_at "ws_15"
    refine o_pow15 ?_
    walk_at "ws_15"
    refine o_pow15 ?_
    walk_at "ws_15"
    refine o_drawW pt8 (by omega) (by decide) (by decide) fun H9 d3 kp9 pt9 c0 c1 => ?_
    walk_at "ws_15"
    refine k_lst (by simp; decide) fun c2 H10 n10 => ?_
    walk_at "ws_15"
    refine o_any (pt9.new n10) (by omega) (fun e => (pt9.ne n10.no) e.symm) (.inl n10.at_) (by simp) (by simp) fun H11 j2 v2 ev2 kp11 pt11 => ?_
    obtain ⟨en, rfl, en0, en1⟩ := late_any ev2 c0 be1
    walk_at "ws_15"
    refine k_lst (by simp; decide) fun c3 H12 n12 => ?_
    walk_at "ws_15"
    refine o_any (pt11.new n12) (by omega) (fun e => (pt11.ne n12.no) e.symm) (.inl n12.at_) (by simp) (by simp) fun H13 j3 v3 ev3 kp13 pt13 => ?_
    obtain ⟨w, rfl⟩ := kind2_any ev3
    walk_at "ws_15"
    have k13 : Keep (At p) H4 H13 := ((kp5.trans kp6).trans (n7.keep.trans kp8)).trans ((kp9.trans (n10.keep.trans kp11)).trans (n12.keep.trans kp13))
    have hf13 := k13.all _ _ (fun z => pf z.symm) hf
    refine w_tyl hf13 ?_
    walk_at "ws_15"
    rw [kind_eq]
    cases w with
    | true =>
      refine w_iteT rfl ?_
      walk_at "ws_15"
      refine o_pow9 ?_
      walk_at "ws_15"
      refine k_tup (by simp; decide) fun t H15 n15 => ?_
      walk_at "ws_15"
      have hf15 := n15.get (hf13)
      refine o_app hf15 (by rw [hlx, sizeLine_eq]; omega) fun H16 p16 => ?_
      walk_at "ws_15"
      have k4 : Keep (At p) H4 H15 := k13.trans n15.keep
      refine ⟨ops ++ [⟨true, 1000000000 - (0 + (i : Int)), be, en⟩], xs ++ [.ref t], _, _, _, _, _, rfl, p16.keep0 (kp.trans k4) n1.no hf15, ((pt13).new n15).put p16 pf |>.le (by omega), p16.at_, ?_, ⟨fun o ho => ?_, ?_⟩, fun z hz => ?_, ?_⟩
      · rw [List.map_append]
        have kA : Keep All H15 H16 := p16.keep (S := All) trivial hf15
        exact (hd.keep ((k4.mono fun _ _ => trivial).trans kA)).snoc ((op_new n15).keep kA)
      · rcases List.mem_append.mp ho with ho | ho
        · exact lo.1 o ho
        · rw [List.mem_singleton.mp ho]
          exact ⟨fun z => by show (1 : Int) ≤ 1000000000 - (0 + (i : Int)); omega, by show (0 : Int) ≤ 1000000000 - (0 + (i : Int)); omega, by show 1000000000 - (0 + (i : Int)) ≤ 1000000000; omega, be0, en0, en1⟩
      · rw [wr_append]
        show (wr ops ++ [1000000000 - (0 + (i : Int))]).Nodup
        exact List.nodup_append.mpr ⟨lo.2, List.pairwise_singleton _ _, fun a ha b hb e => by
          have := hw a ha
          rw [List.mem_singleton.mp hb] at e
          omega⟩
      · rw [wr_append] at hz
        have hz : z ∈ wr ops ++ [1000000000 - (0 + (i : Int))] := hz
        rcases List.mem_append.mp hz with hz | hz
        · have := hw z hz; omega
        · have := List.mem_singleton.mp hz; omega
      · rw [List.length_append, hl]; rfl
    | false =>
      refine w_iteF rfl ?_
      walk_at "ws_15"
      refine o_pow9 ?_
      walk_at "ws_15"
      refine k_lst (by simp; decide) fun c4 H17 n17 => ?_
      walk_at "ws_15"
      refine o_any (pt13.new n17) (by omega) (fun e => (pt13.ne n17.no) e.symm) (.inl n17.at_) (by simp) (by simp) fun H14 j4 v4 ev4 kp14 pt14 => ?_
      obtain ⟨val, rfl, v0, v1⟩ := zero_any ev4
      walk_at "ws_15"
      refine k_tup (by simp; decide) fun t H15 n15 => ?_
      walk_at "ws_15"
      have hf15 := n15.get (kp14.all _ _ (fun z => pf z.symm) (n17.get hf13))
      refine o_app hf15 (by rw [hlx, sizeLine_eq]; omega) fun H16 p16 => ?_
      walk_at "ws_15"
      have k4 : Keep (At p) H4 H15 := (k13.trans (n17.keep.trans kp14)).trans n15.keep
      refine ⟨ops ++ [⟨false, val, be, en⟩], xs ++ [.ref t], _, _, _, _, _, rfl, p16.keep0 (kp.trans k4) n1.no hf15, ((pt14).new n15).put p16 pf |>.le (by omega), p16.at_, ?_, ⟨fun o ho => ?_, ?_⟩, fun z hz => ?_, ?_⟩
      · rw [List.map_append]
        have kA : Keep All H15 H16 := p16.keep (S := All) trivial hf15
        exact (hd.keep ((k4.mono fun _ _ => trivial).trans kA)).snoc ((op_new n15).keep kA)
      · rcases List.mem_append.mp ho with ho | ho
        · exact lo.1 o ho
        · rw [List.mem_singleton.mp ho]
          exact ⟨fun z => (by cases z), by exact v0, by exact v1, be0, en0, en1⟩
      · rw [wr_append]
        show (wr ops ++ []).Nodup
        rw [List.append_nil]; exact lo.2
      · rw [wr_append] at hz
        have hz : z ∈ wr ops ++ [] := hz
        rw [List.append_nil] at hz
        have := hw z hz; omega
      · rw [List.length_append, hl]; rfl
  · rintro σ H4 ⟨ops, xs, x3, x4, x5, x6, x7, rfl, kp, pt4, hf, hd, lo, hw, hl⟩
    have hlm : ops.length = many := by omega
    walk_at "ws_15"
    refine o_tupof hf fun t H5 n5 => ?_
    exact q H5 t ops (kp.trans n5.keep) ((pt4.new n5).le (by omega)) (.tup n5.at_ (hd.keep n5.keep)) lo hlm
end LB

open PySem PySem.Spec PyProof.Rows L2 LB StX
/-! the tactic: one step of a reading; many -/
local macro_rules | `(tactic| walk_at "w1_16") => `(tactic| first
  | with_reducible refine w_seq ?_ | with_reducible refine w_asg ?_ | with_reducible refine w_drop ?_ | with_reducible refine w_ret ?_ | with_reducible refine w_next ?_
  | with_reducible refine w_ifs ?_ | with_reducible refine w_forR1 ?_ | with_reducible refine w_forR2 ?_ | with_reducible refine w_forL ?_ | with_reducible refine w_forT ?_ | with_reducible refine w_name ?_ | with_reducible refine w_sub ?_ | with_reducible refine w_par ?_
  | with_reducible refine w_var (by with_unfolding_all rfl) ?_ | with_reducible refine w_c ?_ | with_reducible refine w_op ?_ | with_reducible refine w_un ?_
  | with_reducible refine w_test ?_ | with_reducible refine w_tb ?_ | with_reducible refine w_nil ?_ | with_reducible refine w_cons ?_ | with_reducible refine w_cb ?_ | with_reducible refine w_call ?_
  | with_reducible refine w_not ?_ | with_reducible refine w_and ?_ | with_reducible refine w_or ?_ | with_reducible refine w_andV ?_ | with_reducible refine w_orV ?_ | with_reducible refine w_notV ?_
  | with_reducible refine w_ife ?_ | with_reducible refine w_chain ?_ | with_reducible refine w_bm ?_ | with_reducible refine w_sl ?_ | with_reducible refine w_part ?_ | with_reducible refine w_nopart ?_
  | with_reducible refine w_exb ?_ | with_reducible refine w_exi ?_ | with_reducible refine w_ex2 ?_ | with_reducible refine w_ex3 ?_ | with_reducible refine w_lstrg ?_ | with_reducible refine w_rg2 ?_ | with_reducible refine w_rg1 ?_ | with_reducible refine w_exij ?_ | with_reducible refine w_tup ?_ | with_reducible refine w_lst ?_
  | with_reducible refine o_add ?_ | with_reducible refine o_sub ?_ | with_reducible refine o_neg ?_ | with_reducible refine o_lt ?_ | with_reducible refine o_le ?_ | with_reducible refine o_gt ?_ | with_reducible refine o_ge ?_
  | with_reducible refine o_ixL (by assumption) (by decide) (by with_unfolding_all rfl) ?_ | with_reducible refine o_ixT (by assumption) (by decide) (by with_unfolding_all rfl) ?_
  | with_reducible refine o_mod (by first | decide | omega) ?_ | with_reducible refine o_mul (by first | decide | omega) ?_ | with_reducible refine o_fdv (by first | decide | omega) (by first | decide | omega) ?_ | with_reducible refine o_setL (by assumption) (by decide) (by simp) ?_
  | with_reducible refine oo_addi ?_ | with_reducible refine oo_sub ?_ | with_reducible refine oo_neg ?_ | with_reducible refine w_rev ?_ | with_reducible refine w_m0 ?_
  | with_reducible refine w_par3 ?_ | with_reducible refine w_tyl (by assumption) ?_
  | with_reducible refine o_abs ?_ | with_reducible refine o_eqs (by with_unfolding_all rfl) ?_ | with_reducible refine o_nes (by with_unfolding_all rfl) ?_ | with_reducible refine o_max2 ?_ | with_reducible refine o_min2 ?_ | with_reducible refine o_isiX (by assumption) ?_ | with_reducible refine o_lenl (by assumption) ?_ | with_reducible refine o_lent (by assumption) ?_ | with_reducible refine o_int1b ?_)
local macro_rules | `(tactic| walk_at "ws_16") => `(tactic| repeat (first | walk_at "w1_16" | dsimp only [List.set_cons_zero, List.set_cons_succ]))
namespace LB
def spLogRight : Sp := fun vs H Q _ => ∃ (t : Addr) (ops : List Op), vs = [.ref t] ∧ LogAt H t ops ∧ ops.length ≤ 200 ∧ LogOk ops ∧ ∀ H1, Keep NoS H H1 → Q (.bl true) H1
theorem spLogRight_arity {vs : List V} {H : Hp} {Q : VK} {E : XK} (h : spLogRight vs H Q E) : vs.length = 1 := by obtain ⟨_, _, rfl, _⟩ := h; rfl
def spLaw58 (K : PySem.W.Frag) : Sp := spLaw K
theorem spLaw58_arity {K : PySem.W.Frag} {vs : List V} {H : Hp} {Q : VK} {E : XK} (h : spLaw58 K vs H Q E) : vs.length = 1 := spLaw_arity h
def t58__law_log_right (K : PySem.W.Frag) : TS :=
  (tSeq (tPar 1 2 (tCons (tCB rRepr (tCons (tVar 0) tNil)) (tCons (tCall spFormat [] E0 (tCons (tVar 0) tNil)) tNil)))
    (tSeq (tIfS (tOr (tTest (tOp (rNeA K) (tCall spFormat [] E0 (tCons (tVar 0) tNil)) (tVar 2))) (tOr (tTest (tOp (rNeA K) (tCB rRepr (tCons (tCall spParseLog [] E0 (tCons (tVar 2) tNil)) tNil)) (tVar 1))) (tTest (tOp (rNeA K) (tCall spChart [] E0 (tCons (tVar 0) tNil)) (tCall spChart [] E0 (tCons (tVar 0) tNil))))))
    (tRet (tC (V.bl false))) tNext)
    (tRet (tOp (rEqA K) (tCB rRepr (tCons (tVar 0) tNil)) (tVar 1)))))

def t58_law_1 (K : PySem.W.Frag) : TS :=
  (tIfS (tTest (tOp (rNeA K) (tOp (rEqA K) (tCall spFormat [] E0 (tCons (tVar 5) tNil)) (tCall spFormat [] E0 (tCons (tVar 6) tNil))) (tOp (rEqA K) (tVar 5) (tVar 6))))
    (tRet (tC (V.bl false))) tNext)

def t58_law_2 (K : PySem.W.Frag) : TS :=
  (tFor (iSeq K (tVar 3)) (gName 6)
    (t58_law_1 K))

def t58_law_3 (K : PySem.W.Frag) : TS :=
  (tSeq (tAsg (tCall (spPot K) [] E0 (tCons (tVar 0) (tCons (tVar 1) tNil))) (gName 2))
    (tSeq (tAsg (tLst (tCons (tCall spWild [] E0 (tCons (tVar 2) (tCons (tC (V.int 12)) (tCons (tC (V.int 30)) tNil)))) (tCons (tCall spFar [] E0 (tCons (tVar 2) (tCons (tC (V.int 12)) tNil))) (tCons (tCall spTrue [] E0 (tCons (tVar 2) (tCons (tC (V.int 10)) (tCons (tC (V.int 3)) (tCons (tC (V.int 5)) tNil))))) (tCons (tTup tNil) (tCons (tCall spFar [] E0 (tCons (tVar 2) (tCons (tC (V.int 200)) tNil))) tNil)))))) (gName 3))
    (tSeq (tIfS (tNot (tB (tCB (rAll K) (tCons (tLc (iSeq K (tVar 3)) (gName 4) tYes (tCall spLogRight [] E0 (tCons (tVar 4) tNil)) [4]) tNil))))
    (tRet (tC (V.bl false))) tNext)
    (tFor (iSeq K (tVar 3)) (gName 5)
    (t58_law_2 K)))))

def t58_law (K : PySem.W.Frag) : TS :=
  (tSeq (tFor (iRng1 (tCons (tCB rMax2 (tCons (tC (V.int 1)) (tCons (tCB rMin2 (tCons (tC (V.int 3)) (tCons (tCB (rLen K) (tCons (tVar 0) tNil)) tNil))) tNil))) tNil)) (gName 1)
    (t58_law_3 K))
    (tRet (tC (V.bl true))))
def goodJ58 (ops : List Op) : Bool := decide (ops.length ≤ 200) && decide (nDis (wr ops) = (wr ops).length)
theorem isOp_dat58 {o : Op} (h : o.ok) : isOpD o.dat = true := by
  obtain ⟨h1, h2, h3, h4, h5, h6⟩ := h
  have st : stampsD (.int o.b) (.int o.e) = true := by
    simp only [stampsD, stampD, within, leD, Bool.and_eq_true, decide_eq_true_eq]
    omega
  have ft : fitsD (.str (kindS o.w)) (.int o.v) = true := by
    cases c : o.w with
    | true =>
      have := h1 c
      have e : eqStr (.str (kindS true)) "write" = true := by decide +kernel
      unfold fitsD
      rw [if_pos e]
      simp only [within, Bool.and_eq_true, decide_eq_true_eq]
      omega
    | false =>
      have e : eqStr (.str (kindS false)) "write" = false := by decide +kernel
      have e2 : eqStr (.str (kindS false)) "read" = true := by decide +kernel
      unfold fitsD
      rw [if_neg (by rw [e]; exact Bool.false_ne_true), e2, Bool.true_and]
      simp only [within, Bool.and_eq_true, decide_eq_true_eq]
      omega
  show (fitsD (.str (kindS o.w)) (.int o.v) && stampsD (.int o.b) (.int o.e)) = true
  rw [ft, st]
  rfl
theorem wr_dat58 : ∀ {ops : List Op}, (ops.map Op.dat).filterMap wrOf = wr ops
  | [] => rfl
  | o :: ops => by
    have ih := wr_dat58 (ops := ops)
    unfold wr at ih ⊢
    rw [List.map_cons, List.filterMap_cons, List.filter_cons]
    cases c : o.w with
    | true =>
      have : wrOf o.dat = some o.v := by
        unfold Op.dat wrOf
        simp only [c, kindS, if_true]
        rfl
      rw [this]
      simp [ih]
    | false =>
      have : wrOf o.dat = none := by
        unfold Op.dat wrOf
        simp only [c, kindS, Bool.false_eq_true, if_false]
        rfl
      rw [this]
      simp [ih]
theorem isLog_dat58 {ops : List Op} (ok : ∀ o ∈ ops, o.ok) : isLogD (.tuple (ops.map Op.dat)) = goodJ58 ops := by
  unfold isLogD goodJ58
  simp only [List.length_map]
  by_cases h : 200 < ops.length
  · rw [if_pos h]
    simp [Nat.not_le.mpr h]
  · rw [if_neg h]
    have al : (ops.map Op.dat).all isOpD = true := by
      rw [List.all_eq_true]
      intro d hd
      obtain ⟨o, ho, rfl⟩ := List.mem_map.mp hd
      exact isOp_dat58 (ok o ho)
    rw [if_pos al, wr_dat58]
    rw [show decide (ops.length ≤ 200) = true from decide_eq_true (by omega), Bool.true_and]
    by_cases z : nDis (wr ops) = (wr ops).length
    · simp [z]
    · have : ¬ (V.int (nDis (wr ops)) = V.int (wr ops).length) := fun e => z (by
        injection e with e
        omega)
      rw [decide_eq_false z, decide_eq_false this]
theorem isLog_of {ops : List Op} (lo : LogOk ops) (few : ops.length ≤ 200) : isLogD (.tuple (ops.map Op.dat)) = true := by
  rw [isLog_dat58 lo.1]
  unfold goodJ58 nDis
  rw [RZ.firstMet_nodup lo.2 _ (Nat.le_refl _), List.take_length]
  simp
  omega
theorem o_neEq {K : PySem.W.Frag} {H : Hp} {Q : VK} {s : Str} (h : Q (.bl false) H) : rNeA K (.str s) (.str s) H Q := .inl ⟨rfl, by
  have e : (!decide (V.str s = V.str s)) = false := by simp
  rw [e]; exact h⟩
theorem o_eqEq {K : PySem.W.Frag} {H : Hp} {Q : VK} {s : Str} (h : Q (.bl true) H) : rEqA K (.str s) (.str s) H Q := .inl ⟨rfl, by
  have e : decide (V.str s = V.str s) = true := by simp
  rw [e]; exact h⟩
theorem pure58__law_log_right {K : PySem.W.Frag} {vs : List V} {H : Hp} {Q : VK} {E : XK} (h : spLogRight vs H Q E) : t58__law_log_right K { nx := fun _ H' => Q .non H', rt := Q } (start ["log", "kept", "page"] vs) H := by
  obtain ⟨t, ops, rfl, lg, few, lo, q⟩ := h
  show t58__law_log_right K _ [some (.ref t), none, none] H
  unfold t58__law_log_right
  obtain ⟨sh, esh⟩ : ∃ s, s = (PyData.tuple (ops.map Op.dat)).shown := ⟨_, rfl⟩
  walk_at "ws_16"
  refine o_repr (lg.dd (S := All)) (log_nice lo.1 few) (by decide) (by decide) (by decide) ?_
  rw [← esh]
  walk_at "ws_16"
  refine ⟨t, ops, rfl, lg, few, lo.1, fun H1 k1 => ?_⟩
  have lg1 := lg.keep k1
  walk_at "ws_16"
  refine ⟨t, ops, rfl, lg1, few, lo.1, fun H2 k2 => ?_⟩
  have lg2 := lg1.keep k2
  walk_at "ws_16"
  refine w_iteF (by simp) ?_
  walk_at "ws_16"
  have ep : parseOpsD (pageS ops) = .tuple (ops.map Op.dat) := parse_page lo.1
  refine ⟨pageS ops, rfl, Nat.le_trans (pageS_len few lo.1) (by decide), by rw [ep]; exact isLog_of lo few, fun p H3 k3 _ hp => ?_⟩
  rw [ep] at hp
  have lg3 := lg2.keep k3
  walk_at "ws_16"
  refine o_repr hp (log_nice lo.1 few) (by decide) (by decide) (by decide) ?_
  rw [← esh]
  walk_at "ws_16"
  refine w_iteF (by simp) ?_
  walk_at "ws_16"
  refine ⟨t, ops, rfl, lg3, few, lo.1, fun H4 k4 => ?_⟩
  have lg4 := lg3.keep k4
  walk_at "ws_16"
  refine ⟨t, ops, rfl, lg4, few, lo.1, fun H5 k5 => ?_⟩
  have lg5 := lg4.keep k5
  walk_at "ws_16"
  refine w_iteF (by simp) ?_
  walk_at "ws_16"
  refine o_repr (lg5.dd (S := All)) (log_nice lo.1 few) (by decide) (by decide) (by decide) ?_
  rw [← esh]
  walk_at "ws_16"
  rw [show decide (V.str sh = V.str sh) = true by simp]
  exact q H5 ((k1.trans k2).trans ((k3.trans k4).trans k5))
theorem kindS_inj : ∀ a b : Bool, kindS a = kindS b → a = b := by decide
theorem dat_inj {x y : Op} (h : x.dat = y.dat) : x = y := by
  obtain ⟨w, v, b, e⟩ := x
  obtain ⟨w', v', b', e'⟩ := y
  unfold Op.dat at h
  injection h with z
  injection z with z1 z
  injection z with z2 z
  injection z with z3 z
  injection z with z4 _
  injection z1 with z1
  injection z2 with z2
  injection z3 with z3
  injection z4 with z4
  dsimp only at z1 z2 z3 z4
  rw [kindS_inj _ _ z1, z2, z3, z4]
theorem eqv_dat {x y : Op} : PyData.eqv x.dat y.dat = true ↔ x = y := by
  have e : PyData.eqv x.dat y.dat = (kindS x.w == kindS y.w && (x.v == y.v && (x.b == y.b && (x.e == y.e && true)))) := by
    simp only [Op.dat, PyData.eqv, PyData.eqvAll]
  rw [e]
  constructor
  · intro z
    simp only [Bool.and_eq_true, beq_iff_eq, and_true] at z
    obtain ⟨z1, z2, z3, z4⟩ := z
    obtain ⟨w, v, b, e⟩ := x
    obtain ⟨w', v', b', e'⟩ := y
    dsimp only at z1 z2 z3 z4
    rw [kindS_inj _ _ z1, z2, z3, z4]
  · intro h; subst h; simp
theorem eqv_logs : ∀ as bs : List Op, PyData.eqvAll (as.map Op.dat) (bs.map Op.dat) = true ↔ as = bs
  | [], [] => by simp [PyData.eqvAll]
  | [], _ :: _ => by simp [PyData.eqvAll]
  | _ :: _, [] => by simp [PyData.eqvAll]
  | a :: as, b :: bs => by
    simp only [List.map_cons, PyData.eqvAll, Bool.and_eq_true, eqv_dat, eqv_logs as bs, List.cons.injEq]
theorem page_eq {as bs : List Op} (ha : ∀ o ∈ as, o.ok) (hb : ∀ o ∈ bs, o.ok) : pageS as = pageS bs ↔ as = bs :=
  ⟨fun h => List.map_inj_right (f := Op.dat) (fun x y z => dat_inj z) |>.mp ((page_inj ha hb).mp h), fun h => by rw [h]⟩
theorem same_said {as bs : List Op} (ha : ∀ o ∈ as, o.ok) (hb : ∀ o ∈ bs, o.ok) : decide (V.str (pageS as) = V.str (pageS bs)) = PyData.eqv (.tuple (as.map Op.dat)) (.tuple (bs.map Op.dat)) := by
  have e : PyData.eqv (.tuple (as.map Op.dat)) (.tuple (bs.map Op.dat)) = PyData.eqvAll (as.map Op.dat) (bs.map Op.dat) := by simp only [PyData.eqv]
  rw [e]
  by_cases h : as = bs
  · rw [(eqv_logs as bs).mpr h, h]; simp
  · have h1 : PyData.eqvAll (as.map Op.dat) (bs.map Op.dat) = false := Bool.eq_false_iff.mpr fun z => h ((eqv_logs as bs).mp z)
    rw [h1]
    exact decide_eq_false fun z => h ((page_eq ha hb).mp (by injection z))
/-- five logs in a list -/
def Five (H : Hp) (l : Addr) (ts : List Addr) (ls : List (List Op)) : Prop := H l = some (.lst (ts.map V.ref)) ∧ ts.length = ls.length ∧ ∀ (i : Nat) (t : Addr) (ops : List Op), ts[i]? = some t → ls[i]? = some ops → LogAt H t ops ∧ LogOk ops ∧ ops.length ≤ 200
theorem Five.keep {H H' : Hp} {l : Addr} {ts : List Addr} {ls : List (List Op)} (h : Five H l ts ls) (k : Keep NoS H H') : Five H' l ts ls :=
  ⟨k.all _ _ id h.1, h.2.1, fun i t ops e1 e2 => ⟨(h.2.2 i t ops e1 e2).1.keep k, (h.2.2 i t ops e1 e2).2⟩⟩
theorem Five.get {H : Hp} {l : Addr} {ts : List Addr} {ls : List (List Op)} (h : Five H l ts ls) {i : Nat} {x : V} (e : (ts.map V.ref)[i]? = some x) : ∃ t ops, x = .ref t ∧ ls[i]? = some ops ∧ LogAt H t ops ∧ LogOk ops ∧ ops.length ≤ 200 := by
  rw [List.getElem?_map] at e
  obtain ⟨t, ht, rfl⟩ := Option.map_eq_some_iff.mp e
  have hi : i < ts.length := (List.getElem?_eq_some_iff.mp ht).1
  have e2 : ls[i]? = some (ls[i]'(by have := h.2.1; omega)) := List.getElem?_eq_getElem _
  exact ⟨t, _, rfl, e2, h.2.2 i t _ ht e2⟩
theorem DDs.bools {S : Addr → Prop} {H : Hp} : ∀ {zs : List Bool} {ys : List V}, DDs S H ys (zs.map PyData.bool) → ys = zs.map V.bl
  | [], _, .nil => rfl
  | z :: zs, _, .cons h r => by
    rw [DDs.bools (zs := zs) r]
    cases h
    rfl
theorem w_forLv {K : PySem.W.Frag} {g : TG} {tb : TS} {D : Ends} {σ : LB.St} {H : Hp} {s : Nat} {a : Addr} {xs : List V} (es : σ[s]? = some (some (.ref a))) (Pv : Nat → LB.St → Hp → Prop) (h0 : Pv 0 σ H) (hl : ∀ i σ H, i ≤ xs.length → Pv i σ H → H a = some (.lst xs))
    (hs : ∀ i x σ H, xs[i]? = some x → Pv i σ H → g x σ H fun σ2 H2 => tb { D with nx := Pv (i + 1), ct := Pv (i + 1), bk := D.nx } σ2 H2) (hd : ∀ σ H, Pv xs.length σ H → D.nx σ H) : tFor (iSeq K (tVar s)) g tb D σ H :=
  .inl (w_var es ⟨a, rfl, ⟨xs, .inl (.inl (hl 0 σ H (Nat.zero_le _) h0))⟩, for_list (xs := xs) Pv h0 (fun i σ H h1 h2 => .inl (.inl (hl i σ H h1 h2))) hs hd⟩)
theorem pure58_law {K : PySem.W.Frag} {vs : List V} {H : Hp} {Q : VK} {E : XK} (h : spLaw58 K vs H Q E) : t58_law K { nx := fun _ H' => Q .non H', rt := Q } (start ["script", "k", "pot", "some", "log", "one", "other"] vs) H := by
  obtain ⟨a, ns, rfl, sq, len, q⟩ := h
  show t58_law K _ [some (.ref a), none, none, none, none, none, none] H
  unfold t58_law
  walk_at "ws_16"
  refine o_lens sq ?_
  walk_at "ws_16"
  generalize hj : (if _ > (1 : Int) then _ else (1 : Int)) = j
  have hj3 : 1 ≤ j ∧ j ≤ 3 := by
    have e : ∀ m : Int, (if m < 3 then m else 3 : Int) ≤ 3 := fun m => by split <;> omega
    have e1 := e ((ns.map V.int).length : Int)
    rw [← hj]
    generalize (if ((ns.map V.int).length : Int) < 3 then ((ns.map V.int).length : Int) else 3 : Int) = m at e1 ⊢
    split <;> omega
  refine k_R1 (by omega) (by omega) (fun i σ H' => (∃ x1 x2 x3 x4 x5 x6, σ = [some (.ref a), x1, x2, x3, x4, x5, x6]) ∧ Keep NoS H H') ⟨⟨_, _, _, _, _, _, rfl⟩, Keep.refl _ _⟩ ?_ ?_
  · rintro i σ H1 hi ⟨⟨x1, x2, x3, x4, x5, x6, rfl⟩, k1⟩
    have hi3 : (i : Int) < 3 := by omega
    walk_at "ws_16"
    unfold t58_law_3
    walk_at "ws_16"
    refine ⟨a, _, ns, rfl, sql_keep k1 sq, by omega, by omega, len, fun H2 p p0 k2 pt => ?_⟩
    walk_at "ws_16"
    refine ⟨p, 12, 30, _, rfl, pt, by omega, by omega, by omega, by omega, by simp, fun F1 t1 l1 kp1 pt1 d1 lo1 hl1 _ => ?_⟩
    walk_at "ws_16"
    refine ⟨p, 12, _, rfl, pt1, by omega, by simp, fun F2 t2 l2 kp2 pt2 d2 lo2 hl2 => ?_⟩
    walk_at "ws_16"
    refine ⟨p, 10, 3, 5, _, rfl, pt2, by omega, by omega, by omega, by omega, by omega, by omega, by simp, fun F3 t3 l3 kp3 pt3 d3 lo3 hl3 _ => ?_⟩
    walk_at "ws_16"
    refine k_tup (by simp) fun t4 F4 n4 => ?_
    walk_at "ws_16"
    refine ⟨p, 200, _, rfl, pt3.new n4, by omega, by simp, fun F5 t5 l5 kp5 pt5 d5 lo5 hl5 => ?_⟩
    walk_at "ws_16"
    refine k_lst (by simp; decide) fun l F6 n6 => ?_
    walk_at "ws_16"
    have l1' := (LogAt.of_dd d1)
    have k16 : Keep All F1 F6 := (((kp2.mono fun _ _ => trivial).trans (kp3.mono fun _ _ => trivial)).trans n4.keep).trans ((kp5.mono fun _ _ => trivial).trans n6.keep)
    have k26 : Keep All F2 F6 := ((kp3.mono fun _ _ => trivial).trans n4.keep).trans ((kp5.mono fun _ _ => trivial).trans n6.keep)
    have k36 : Keep All F3 F6 := (Keep.trans (n4.keep (S := All)) (kp5.mono fun _ _ => trivial)).trans n6.keep
    have k46 : Keep All F4 F6 := (kp5.mono fun _ _ => trivial).trans n6.keep
    have five : Five F6 l [t1, t2, t3, t4, t5] [l1, l2, l3, [], l5] := by
      refine ⟨n6.at_, rfl, fun i t ops e1 e2 => ?_⟩
      match i, e1, e2 with
      | 0, e1, e2 => cases e1; cases e2; exact ⟨LogAt.of_dd (d1.keep k16), lo1, by simpa using Nat.le_trans hl1 (by simp)⟩
      | 1, e1, e2 => cases e1; cases e2; exact ⟨LogAt.of_dd (d2.keep k26), lo2, by omega⟩
      | 2, e1, e2 => cases e1; cases e2; exact ⟨LogAt.of_dd (d3.keep k36), lo3, by rw [hl3]; decide⟩
      | 3, e1, e2 => cases e1; cases e2; exact ⟨⟨[], k46.tup _ _ n4.at_, rfl, fun i o e => by simp at e⟩, ⟨fun o ho => (by cases ho), List.Pairwise.nil⟩, by simp⟩
      | 4, e1, e2 => cases e1; cases e2; exact ⟨LogAt.of_dd (d5.keep n6.keep), lo5, by omega⟩
    have ep : ∀ c, At p c → NoS c ∨ H1 c = none := fun c h => .inr (by rw [show c = p from h]; exact p0)
    have kH : Keep NoS H1 F6 := (((((Keep.trans0 k2 kp1 ep).trans0 kp2 ep).trans0 kp3 ep).trans n4.keep).trans0 kp5 ep).trans n6.keep
    clear kp1 pt1 d1 kp2 pt2 d2 kp3 pt3 d3 kp5 pt5 d5 l1' k16 k26 k36 k46
    have few5 : [t1, t2, t3, t4, t5].length ≤ 1000000 := by simp
    generalize [t1, t2, t3, t4, t5] = ts at five n6 few5
    generalize [l1, l2, l3, [], l5] = ls at five
    have hl6 := five.1
    refine w_lcL (by with_unfolding_all rfl) hl6 ?_
    refine lc_dt (fun _ => .bool true) (.inl ⟨rfl, hl6⟩) (by rw [List.length_map]; exact few5) (fun n x H3 Q2 hn k q2 => ?_) fun D H7 ys k7 _ hD hd => ?_
    · obtain ⟨t, ops, rfl, _, lg, lo, few⟩ := (five.keep k).get hn
      walk_at "ws_16"
      exact ⟨t, ops, rfl, lg, few, lo, fun H4 k4 => q2 _ H4 k4 (.bl true)⟩
    have five7 := five.keep k7
    walk_at "ws_16"
    rw [List.map_const', List.length_range, ← List.map_replicate] at hd
    have := hd.bools
    subst this
    refine ⟨D, _, rfl, .inl (.inl hD), ?_⟩
    walk_at "ws_16"
    refine w_iteF (by simp) ?_
    walk_at "ws_16"
    refine w_forLv (xs := ts.map V.ref) (by with_unfolding_all rfl) (fun _ σ H' => (∃ y5 y6, σ = [some (.ref a), some (.int (0 + i)), some (.ref p), some (.ref l), x4, y5, y6]) ∧ Keep NoS F6 H') ⟨⟨_, _, rfl⟩, k7⟩ (fun n σ H' _ h => (five.keep h.2).1) ?_ ?_
    · rintro n x σ H8 hn ⟨⟨y5, y6, rfl⟩, k8⟩
      obtain ⟨t, ops, rfl, _, lg, lo, few⟩ := (five.keep k8).get hn
      walk_at "ws_16"
      unfold t58_law_2
      refine w_forLv (xs := ts.map V.ref) (by with_unfolding_all rfl) (fun _ σ H' => (∃ z6, σ = [some (.ref a), some (.int (0 + i)), some (.ref p), some (.ref l), x4, some (.ref t), z6]) ∧ Keep NoS F6 H' ∧ Keep NoS H8 H') ⟨⟨_, rfl⟩, k8, Keep.refl _ _⟩ (fun n σ H' _ h => (five.keep h.2.1).1) ?_ ?_
      · rintro m x σ H9 hm ⟨⟨z6, rfl⟩, k9, k89⟩
        obtain ⟨t', ops', rfl, _, lg', lo', few'⟩ := (five.keep k9).get hm
        have lg9 := lg.keep k89
        walk_at "ws_16"
        unfold t58_law_1
        walk_at "ws_16"
        refine ⟨t, ops, rfl, lg9, few, lo.1, fun G1 g1 => ?_⟩
        walk_at "ws_16"
        refine ⟨t', ops', rfl, lg'.keep g1, few', lo'.1, fun G2 g2 => ?_⟩
        walk_at "ws_16"
        refine o_eqDat ((lg9.keep (g1.trans g2)).dd (S := All)) ((lg'.keep (g1.trans g2)).dd (S := All)) (log_lay ops) (log_lay ops') ?_
        walk_at "ws_16"
        rw [same_said lo.1 lo'.1]
        refine w_iteF (by simp) ?_
        walk_at "ws_16"
        exact ⟨⟨_, rfl⟩, k9.trans (g1.trans g2), k89.trans (g1.trans g2)⟩
      · rintro σ H9 ⟨⟨z6, rfl⟩, k9, k89⟩
        exact ⟨⟨_, _, rfl⟩, k9⟩
    · rintro σ H8 ⟨⟨y5, y6, rfl⟩, k8⟩
      exact ⟨⟨_, _, _, _, _, _, rfl⟩, k1.trans (kH.trans k8)⟩
  · rintro σ H1 ⟨⟨x1, x2, x3, x4, x5, x6, rfl⟩, k1⟩
    walk_at "ws_16"
    exact q _
end LB

namespace K01
open PySem PySem.Spec PyProof.Rows L2 LB StX
def topS (i : Nat) : PySem.Stmt := PySem.Challenge.pw_clockslack_k58_whole_logs_written_and_re.main.body.getD i (.Pass ⟨0, 0, 0, 0⟩)
theorem pe_kw {X : Cx} {CX : CXT} {k j m : Nat} {sp : Sp} {x : Str} {p pos : Pos} {tk : TA} {E : XK} {kws : List Keyword} {ks : List Str} {pi : {α : Type} → List α → List α → List α}
    (c : KalG X.prog X.w X.K X.mg X.base CX k x 0 ks pi sp) (em : ks.length = m) (hr : Room j X.A) (hk : k ≤ j) (gd : X.A.guards = some []) (hx : Passes CX X E) (gl : Gl X x) (hkw : PK X kws tk)
    (dbg : (x == ("__debug__" : Str)) = false := by decide) (all : (backToKw pos (keywordEach kws X.env)).all (·.1.isSome) = true := by rfl) (hks : (backToKw pos (keywordEach kws X.env)).filterMap (·.1) = ks := by rfl)
    (pl : ((backTo pos (starEach [] X.env)).any (·.1) || (backToKw pos (keywordEach kws X.env)).any (·.1.isNone)) = false := by rfl) : PE X (.Call (.Name x p) [] kws pos) (tCallW sp pi m E tk) := by
  subst em
  exact pe_gw c hr hk gd hx gl hkw dbg all hks pl
theorem pe_kv {X : Cx} {CX : CXT} {k j m n : Nat} {sp : Sp} {x : Str} {p pos : Pos} {t tk : TA} {E : XK} {e : Expr} {es : List Expr} {kws : List Keyword} {ks : List Str} {pi : {α : Type} → List α → List α → List α}
    (c : KalG X.prog X.w X.K X.mg X.base CX k x n ks pi sp) (em : ks.length = m) (hr : Room j X.A) (hk : k ≤ j) (gd : X.A.guards = some []) (hx : Passes CX X E) (gl : Gl X x) (ha : PA X (e :: es) t) (hkw : PK X kws tk)
    (dbg : (x == ("__debug__" : Str)) = false := by decide) (all : (backToKw pos (keywordEach kws X.env)).all (·.1.isSome) = true := by rfl) (hks : (backToKw pos (keywordEach kws X.env)).filterMap (·.1) = ks := by rfl)
    (st : starEach (e :: es) X.env = (false, eval e X.env) :: starEach es X.env := by rfl)
    (pl : ((backTo pos (starEach (e :: es) X.env)).any (·.1) || (backToKw pos (keywordEach kws X.env)).any (·.1.isNone)) = false := by rfl) : PE X (.Call (.Name x p) (e :: es) kws pos) (tCallV sp pi n m E t tk) := by
  subst em
  exact pe_gv c hr hk gd hx gl ha hkw dbg all hks st pl
theorem pe_gc {X : Cx} {x : Str} {pos : Pos} {v : V} (hg : Gl X x) (h : ∃ u, X.mg x = some u ∧ RelV v u) (hd : (x == ("__debug__" : Str)) = false := by decide) : PE X (.Name x pos) (tC v) := by
  obtain ⟨u, hm, r⟩ := h
  exact pe_glob hg hm r hd
theorem bindsG {K : PySem.W.Frag} {x qual : Str} {st : Stmt} {f : Addr} {fd : FuncData} {ps : List Str} (F : Fun K x qual st f fd)
    (h : ∀ (kV doc pm : Value) (an : Option Addr) (cdv ct : Value) (us : List Value), us.length = ps.length → bindArgs (PySem.W.fnOf x qual (defArgs st) (defBody st) (defScope st) .none kV doc pm an cdv ct) ⟨us, []⟩ = pure (ps.zip us)) :
    ∀ us : List Value, us.length = ps.length → bindArgs fd ⟨us, []⟩ = pure (ps.zip us) := by
  obtain ⟨oc, od, kV, doc, pm, an, cdv, ct, osl, rfl, lk, hcd⟩ := F.ex
  exact h kV doc pm an cdv ct
theorem bindsW {K : PySem.W.Frag} {x qual : Str} {st : Stmt} {f : Addr} {fd : FuncData} {ps ks : List Str} {n : Nat} {pi : {α : Type} → List α → List α → List α} (F : Fun K x qual st f fd)
    (h : ∀ (kV doc pm : Value) (an : Option Addr) (cdv ct : Value) (us ws : List Value), us.length = n → ws.length = ks.length → bindArgs (PySem.W.fnOf x qual (defArgs st) (defBody st) (defScope st) .none kV doc pm an cdv ct) ⟨us, ks.zip ws⟩ = pure (ps.zip (pi us ws))) :
    ∀ us ws : List Value, us.length = n → ws.length = ks.length → bindArgs fd ⟨us, ks.zip ws⟩ = pure (ps.zip (pi us ws)) := by
  obtain ⟨oc, od, kV, doc, pm, an, cdv, ct, osl, rfl, lk, hcd⟩ := F.ex
  exact h kV doc pm an cdv ct
theorem fng_never {P : Program} {w : World} {K : PySem.W.Frag} {mg : Str → Option Value} {base : Heap} {k : Nat} {f : Addr} {fd : FuncData} {ps : List Str} : FnG P w K mg base CX0 k f fd ps (fun _ _ _ _ => False) :=
  ⟨fun _ _ _ _ h => h.elim, fun _ _ _ _ _ _ _ _ _ _ _ _ _ _ h => h.elim⟩
section
variable {P : Program} {w : World} {K : PySem.W.Frag} {mg : Str → Option Value} {base : Heap}
abbrev s_is_integer : Stmt := topS 5
abbrev N_is_integer : List Str := ["value"]
theorem sc_is_integer : FnScope N_is_integer ["value"] (defScope s_is_integer) := ⟨rfl, rfl, rfl, by decide +kernel, rfl, by decide +kernel, by decide +kernel⟩

theorem der_is_integer {f : Addr} {cdv : Value} {A : Around} {outer : List Env} {s : Shared} {H : Hp} {E : XK}
    (n_isinstance : mg "isinstance" = none)
    (n_int : mg "int" = none)
    (n_bool : mg "bool" = none)
    (hr : Room 0 (A.deeper (envOfC "is_integer" (defScope s_is_integer) s.heap.objs.size f cdv))) (gd : (A.deeper (envOfC "is_integer" (defScope s_is_integer) s.heap.objs.size f cdv)).guards = some []) :
    PSs (cxOf CX0 P w K mg base N_is_integer "is_integer" (defScope s_is_integer) f cdv A outer s H E).nox (defBody s_is_integer) (t_is_integer K) :=
  (pss_one (ps_ret (pe_and (pe_callB call_isi (by rfl) n_isinstance (by decide +kernel) (pa_cons (pv 0) (pa_cons (pe_bltn (v := .ty "int") (by rfl) n_int (by decide +kernel) rfl) pa_nil))) (pe_one (pe_not (pe_callB call_isi (by rfl) n_isinstance (by decide +kernel) (pa_cons (pv 0) (pa_cons (pe_bltn (v := .ty "bool") (by rfl) n_bool (by decide +kernel) rfl) pa_nil))))))))

theorem ok_is_integer {f : Addr} {fd : FuncData} (F : Fun K "is_integer" "is_integer" s_is_integer f fd)
    (n_isinstance : mg "isinstance" = none)
    (n_int : mg "int" = none)
    (n_bool : mg "bool" = none) :
    FnG P w K mg base CX0 1 f fd ["value"] spIsInt :=
  fn_g F sc_is_integer (fun vs H Q E h => spIsInt_arity h) (fun cdv A outer s H vs Q E hr gd0 h => ⟨t_is_integer K, PSs.nox (der_is_integer n_isinstance n_int n_bool hr gd0), pure_is_integer h⟩)

abbrev s_is_integer_within : Stmt := topS 6
abbrev N_is_integer_within : List Str := ["value", "least", "greatest"]
theorem sc_is_integer_within : FnScope N_is_integer_within ["value", "least", "greatest"] (defScope s_is_integer_within) := ⟨rfl, rfl, rfl, by decide +kernel, rfl, by decide +kernel, by decide +kernel⟩

theorem der_is_integer_within {f : Addr} {cdv : Value} {A : Around} {outer : List Env} {s : Shared} {H : Hp} {E : XK}
    (g_is_integer : CalG P w K mg base CX0 1 "is_integer" spIsInt)
    (hr : Room 1 (A.deeper (envOfC "is_integer_within" (defScope s_is_integer_within) s.heap.objs.size f cdv))) (gd : (A.deeper (envOfC "is_integer_within" (defScope s_is_integer_within) s.heap.objs.size f cdv)).guards = some []) :
    PSs (cxOf CX0 P w K mg base N_is_integer_within "is_integer_within" (defScope s_is_integer_within) f cdv A outer s H E).nox (defBody s_is_integer_within) (t_is_integer_within K) :=
  (pss_one (ps_ret (pe_and (pe_g g_is_integer hr (by decide) gd pass0 (by rfl) (pa_cons (pv 0) pa_nil)) (pe_one (pe_chain op_le op_le (pv 1) (pv 0) (pv 2))))))

theorem ok_is_integer_within {f : Addr} {fd : FuncData} (F : Fun K "is_integer_within" "is_integer_within" s_is_integer_within f fd)
    (g_is_integer : CalG P w K mg base CX0 1 "is_integer" spIsInt) :
    FnG P w K mg base CX0 2 f fd ["value", "least", "greatest"] spWithin :=
  fn_g F sc_is_integer_within (fun vs H Q E h => spWithin_arity h) (fun cdv A outer s H vs Q E hr gd0 h => ⟨t_is_integer_within K, PSs.nox (der_is_integer_within g_is_integer hr gd0), pure_is_integer_within h⟩)

abbrev s__is_stamp : Stmt := topS 20
abbrev N__is_stamp : List Str := ["value"]
theorem sc__is_stamp : FnScope N__is_stamp ["value"] (defScope s__is_stamp) := ⟨rfl, rfl, rfl, by decide +kernel, rfl, by decide +kernel, by decide +kernel⟩

theorem der__is_stamp {f : Addr} {cdv : Value} {A : Around} {outer : List Env} {s : Shared} {H : Hp} {E : XK}
    (g_is_integer_within : CalG P w K mg base CX0 2 "is_integer_within" spWithin)
    (c_GREATEST_STAMP : ∃ u, mg "GREATEST_STAMP" = some u ∧ RelV (V.int 1000000000000000) u)
    (hr : Room 2 (A.deeper (envOfC "_is_stamp" (defScope s__is_stamp) s.heap.objs.size f cdv))) (gd : (A.deeper (envOfC "_is_stamp" (defScope s__is_stamp) s.heap.objs.size f cdv)).guards = some []) :
    PSs (cxOf CX0 P w K mg base N__is_stamp "_is_stamp" (defScope s__is_stamp) f cdv A outer s H E).nox (defBody s__is_stamp) (t__is_stamp K) :=
  (pss_one (ps_ret (pe_g g_is_integer_within hr (by decide) gd pass0 (by rfl) (pa_cons (pv 0) (pa_cons (pe_un un_neg (pe_gc (by rfl) c_GREATEST_STAMP)) (pa_cons (pe_gc (by rfl) c_GREATEST_STAMP) pa_nil))))))

theorem ok__is_stamp {f : Addr} {fd : FuncData} (F : Fun K "_is_stamp" "_is_stamp" s__is_stamp f fd)
    (g_is_integer_within : CalG P w K mg base CX0 2 "is_integer_within" spWithin)
    (c_GREATEST_STAMP : ∃ u, mg "GREATEST_STAMP" = some u ∧ RelV (V.int 1000000000000000) u) :
    FnG P w K mg base CX0 3 f fd ["value"] spStamp :=
  fn_g F sc__is_stamp (fun vs H Q E h => spStamp_arity h) (fun cdv A outer s H vs Q E hr gd0 h => ⟨t__is_stamp K, PSs.nox (der__is_stamp g_is_integer_within c_GREATEST_STAMP hr gd0), pure__is_stamp h⟩)

abbrev s_are_stamps : Stmt := topS 18
abbrev N_are_stamps : List Str := ["begin", "end"]
theorem sc_are_stamps : FnScope N_are_stamps ["begin", "end"] (defScope s_are_stamps) := ⟨rfl, rfl, rfl, by decide +kernel, rfl, by decide +kernel, by decide +kernel⟩

theorem der_are_stamps {f : Addr} {cdv : Value} {A : Around} {outer : List Env} {s : Shared} {H : Hp} {E : XK}
    (g__is_stamp : CalG P w K mg base CX0 3 "_is_stamp" spStamp)
    (hr : Room 3 (A.deeper (envOfC "are_stamps" (defScope s_are_stamps) s.heap.objs.size f cdv))) (gd : (A.deeper (envOfC "are_stamps" (defScope s_are_stamps) s.heap.objs.size f cdv)).guards = some []) :
    PSs (cxOf CX0 P w K mg base N_are_stamps "are_stamps" (defScope s_are_stamps) f cdv A outer s H E).nox (defBody s_are_stamps) (t__are_stamps K) :=
  (pss_one (ps_ret (pe_and (pe_g g__is_stamp hr (by decide) gd pass0 (by rfl) (pa_cons (pv 0) pa_nil)) (pe_and (pe_g g__is_stamp hr (by decide) gd pass0 (by rfl) (pa_cons (pv 1) pa_nil)) (pe_one (pe_cmpR op_le (pv 0) (pv 1) (nomark _)))))))

theorem ok_are_stamps {f : Addr} {fd : FuncData} (F : Fun K "are_stamps" "are_stamps" s_are_stamps f fd)
    (g__is_stamp : CalG P w K mg base CX0 3 "_is_stamp" spStamp) :
    FnG P w K mg base CX0 4 f fd ["begin", "end"] spStamps :=
  fn_g F sc_are_stamps (fun vs H Q E h => spStamps_arity h) (fun cdv A outer s H vs Q E hr gd0 h => ⟨t__are_stamps K, PSs.nox (der_are_stamps g__is_stamp hr gd0), pure__are_stamps h⟩)

abbrev s__fits_kind : Stmt := topS 19
abbrev N__fits_kind : List Str := ["kind", "held"]
theorem sc__fits_kind : FnScope N__fits_kind ["kind", "held"] (defScope s__fits_kind) := ⟨rfl, rfl, rfl, by decide +kernel, rfl, by decide +kernel, by decide +kernel⟩

theorem der__fits_kind {f : Addr} {cdv : Value} {A : Around} {outer : List Env} {s : Shared} {H : Hp} {E : XK}
    (g_is_integer_within : CalG P w K mg base CX0 2 "is_integer_within" spWithin)
    (c_WRITE : ∃ u, mg "WRITE" = some u ∧ RelV (V.str "write") u)
    (c_GREATEST_VALUE : ∃ u, mg "GREATEST_VALUE" = some u ∧ RelV (V.int 1000000000) u)
    (c_READ : ∃ u, mg "READ" = some u ∧ RelV (V.str "read") u)
    (hr : Room 2 (A.deeper (envOfC "_fits_kind" (defScope s__fits_kind) s.heap.objs.size f cdv))) (gd : (A.deeper (envOfC "_fits_kind" (defScope s__fits_kind) s.heap.objs.size f cdv)).guards = some []) :
    PSs (cxOf CX0 P w K mg base N__fits_kind "_fits_kind" (defScope s__fits_kind) f cdv A outer s H E).nox (defBody s__fits_kind) (t__fits_kind K) :=
  (pss_cons (ps_if (pt_cmpR (op_eqA (units65 hr)) (pv 0) (pe_gc (by rfl) c_WRITE) (nomark _))
      (pss_one (ps_ret (pe_g g_is_integer_within hr (by decide) gd pass0 (by rfl) (pa_cons (pv 1) (pa_cons pe_int (pa_cons (pe_gc (by rfl) c_GREATEST_VALUE) pa_nil)))))) pss_nil)
      (pss_one (ps_ret (pe_and (pe_cmpR (op_eqA (units65 hr)) (pv 0) (pe_gc (by rfl) c_READ) (nomark _)) (pe_one (pe_g g_is_integer_within hr (by decide) gd pass0 (by rfl) (pa_cons (pv 1) (pa_cons pe_int (pa_cons (pe_gc (by rfl) c_GREATEST_VALUE) pa_nil)))))))))

theorem ok__fits_kind {f : Addr} {fd : FuncData} (F : Fun K "_fits_kind" "_fits_kind" s__fits_kind f fd)
    (g_is_integer_within : CalG P w K mg base CX0 2 "is_integer_within" spWithin)
    (c_WRITE : ∃ u, mg "WRITE" = some u ∧ RelV (V.str "write") u)
    (c_GREATEST_VALUE : ∃ u, mg "GREATEST_VALUE" = some u ∧ RelV (V.int 1000000000) u)
    (c_READ : ∃ u, mg "READ" = some u ∧ RelV (V.str "read") u) :
    FnG P w K mg base CX0 3 f fd ["kind", "held"] spFits :=
  fn_g F sc__fits_kind (fun vs H Q E h => spFits_arity h) (fun cdv A outer s H vs Q E hr gd0 h => ⟨t__fits_kind K, PSs.nox (der__fits_kind g_is_integer_within c_WRITE c_GREATEST_VALUE c_READ hr gd0), pure__fits_kind h⟩)

abbrev s_is_operation : Stmt := topS 16
abbrev N_is_operation : List Str := ["value", "kind", "held", "begin", "end"]
theorem sc_is_operation : FnScope N_is_operation ["value"] (defScope s_is_operation) := ⟨rfl, rfl, rfl, by decide +kernel, rfl, by decide +kernel, by decide +kernel⟩

theorem der_is_operation {f : Addr} {cdv : Value} {A : Around} {outer : List Env} {s : Shared} {H : Hp} {E : XK}
    (g__fits_kind : CalG P w K mg base CX0 3 "_fits_kind" spFits)
    (g_are_stamps : CalG P w K mg base CX0 4 "are_stamps" spStamps)
    (n_isinstance : mg "isinstance" = none)
    (n_tuple : mg "tuple" = none)
    (n_len : mg "len" = none)
    (hr : Room 4 (A.deeper (envOfC "is_operation" (defScope s_is_operation) s.heap.objs.size f cdv))) (gd : (A.deeper (envOfC "is_operation" (defScope s_is_operation) s.heap.objs.size f cdv)).guards = some []) :
    PSs (cxOf CX0 P w K mg base N_is_operation "is_operation" (defScope s_is_operation) f cdv A outer s H E).nox (defBody s_is_operation) (t_is_operation K) :=
  (pss_cons (ps_if (PW.pt (pw_or (pt_not (pt_val (pe_callB call_isi (by rfl) n_isinstance (by decide +kernel) (pa_cons (pv 0) (pa_cons (pe_bltn (v := .ty "tuple") (by rfl) n_tuple (by decide +kernel) rfl) pa_nil))))) (pw_or1 (pt_cmpR (op_neA (units65 hr)) (pe_callB call_len (by rfl) n_len (by decide +kernel) (pa_cons (pv 0) pa_nil)) pe_int (nomark _)))))
      (pss_one (ps_ret pe_bl)) pss_nil)
      (pss_cons (ps_asg (pv 0) (pg_tup rfl (pgs_cons (pg_name (i := 1) sc_is_operation.nd rfl (by first | exact Or.inl rfl | exact Or.inr rfl)) (pgs_cons (pg_name (i := 2) sc_is_operation.nd rfl (by first | exact Or.inl rfl | exact Or.inr rfl)) (pgs_cons (pg_name (i := 3) sc_is_operation.nd rfl (by first | exact Or.inl rfl | exact Or.inr rfl)) (pgs_cons (pg_name (i := 4) sc_is_operation.nd rfl (by first | exact Or.inl rfl | exact Or.inr rfl)) pgs_nil))))))
      (pss_one (ps_ret (pe_and (pe_g g__fits_kind hr (by decide) gd pass0 (by rfl) (pa_cons (pv 1) (pa_cons (pv 2) pa_nil))) (pe_one (pe_g g_are_stamps hr (by decide) gd pass0 (by rfl) (pa_cons (pv 3) (pa_cons (pv 4) pa_nil)))))))))

theorem ok_is_operation {f : Addr} {fd : FuncData} (F : Fun K "is_operation" "is_operation" s_is_operation f fd)
    (g__fits_kind : CalG P w K mg base CX0 3 "_fits_kind" spFits)
    (g_are_stamps : CalG P w K mg base CX0 4 "are_stamps" spStamps)
    (n_isinstance : mg "isinstance" = none)
    (n_tuple : mg "tuple" = none)
    (n_len : mg "len" = none) :
    FnG P w K mg base CX0 5 f fd ["value"] spIsOp :=
  fn_g F sc_is_operation (fun vs H Q E h => spIsOp_arity h) (fun cdv A outer s H vs Q E hr gd0 h => ⟨t_is_operation K, PSs.nox (der_is_operation g__fits_kind g_are_stamps n_isinstance n_tuple n_len hr gd0), pure_is_operation h⟩)

abbrev s_is_log : Stmt := topS 17
abbrev N_is_log : List Str := ["value", "item", "written"]
theorem sc_is_log : FnScope N_is_log ["value"] (defScope s_is_log) := ⟨rfl, rfl, rfl, by decide +kernel, rfl, by decide +kernel, by decide +kernel⟩

theorem der_is_log {f : Addr} {cdv : Value} {A : Around} {outer : List Env} {s : Shared} {H : Hp} {E : XK}
    (g_is_operation : CalG P w K mg base CX0 5 "is_operation" spIsOp)
    (n_all : mg "all" = none)
    (n_len : mg "len" = none)
    (n_isinstance : mg "isinstance" = none)
    (n_tuple : mg "tuple" = none)
    (n_set : mg "set" = none)
    (c_MOST_OPERATIONS : ∃ u, mg "MOST_OPERATIONS" = some u ∧ RelV (V.int 200) u)
    (c_VALUE : ∃ u, mg "VALUE" = some u ∧ RelV (V.int 1) u)
    (c_WRITE : ∃ u, mg "WRITE" = some u ∧ RelV (V.str "write") u)
    (c_KIND : ∃ u, mg "KIND" = some u ∧ RelV (V.int 0) u)
    (hr : Room 5 (A.deeper (envOfC "is_log" (defScope s_is_log) s.heap.objs.size f cdv))) (gd : (A.deeper (envOfC "is_log" (defScope s_is_log) s.heap.objs.size f cdv)).guards = some []) :
    PSs (cxOf CX0 P w K mg base N_is_log "is_log" (defScope s_is_log) f cdv A outer s H E).nox (defBody s_is_log) (t_is_log K) :=
  (pss_cons (ps_if (PW.pt (pw_or (pt_not (pt_val (pe_callB call_isi (by rfl) n_isinstance (by decide +kernel) (pa_cons (pv 0) (pa_cons (pe_bltn (v := .ty "tuple") (by rfl) n_tuple (by decide +kernel) rfl) pa_nil))))) (pw_or1 (pt_cmpR op_gt (pe_callB call_len (by rfl) n_len (by decide +kernel) (pa_cons (pv 0) pa_nil)) (pe_gc (by rfl) c_MOST_OPERATIONS) (nomark _)))))
      (pss_one (ps_ret pe_bl)) pss_nil)
      (pss_cons (ps_if (pt_not (pt_val (pe_callB (cr_all rfl) (by rfl) n_all (by decide +kernel) (pa_cons (pe_lc (own := [("item", 1)]) (g := (gName 1)) (tt := tYes) rfl sc_is_log.nd (pi_seq (pv 0)) (blkOk_by (N := N_is_log) (sc := defScope s_is_log) (by decide +kernel)) (fun _ _ _ _ _ => (pg_name (i := 1) sc_is_log.nd rfl (by first | exact Or.inl rfl | exact Or.inr rfl))) (fun _ _ _ _ _ => pts_nil) (fun _ _ _ _ _ => (pe_g g_is_operation hr (by decide) gd pass0 (by rfl) (pa_cons (pv 1) pa_nil)))) pa_nil))))
      (pss_one (ps_ret pe_bl)) pss_nil)
      (pss_cons (ps_setLc (i := 2) (own := [("item", 1)]) (g := (gName 1)) (tt := (tTest (tOp (rEqA K) (tOp (rIx K) (tVar 1) (tC (V.int 0))) (tC (V.str "write"))))) rfl sc_is_log.nd rfl rfl (sw_true rfl rfl rfl (by decide +kernel)) (pi_seq (pv 0)) (blkOk_by (N := N_is_log) (sc := defScope s_is_log) (by decide +kernel)) (fun _ _ _ _ _ => (pg_name (i := 1) sc_is_log.nd rfl (by first | exact Or.inl rfl | exact Or.inr rfl))) (fun _ _ _ _ _ => (pts_one (pt_cmpR (op_eqA (units65 hr)) (pe_ix ix_seq (pv 1) (pe_gc (by rfl) c_KIND) (fun _ _ => rfl)) (pe_gc (by rfl) c_WRITE) (nomark _)))) (fun _ _ _ _ _ => (pe_ix ix_seq (pv 1) (pe_gc (by rfl) c_VALUE) (fun _ _ => rfl))))
      (pss_one (ps_ret (pe_cmpR (op_eqA (units65 hr)) (pe_lenset hr (by rfl) n_len (by rfl) n_set (pv 2)) (pe_callB call_len (by rfl) n_len (by decide +kernel) (pa_cons (pv 2) pa_nil)) (nomark _)))))))

theorem ok_is_log {f : Addr} {fd : FuncData} (F : Fun K "is_log" "is_log" s_is_log f fd)
    (g_is_operation : CalG P w K mg base CX0 5 "is_operation" spIsOp)
    (n_all : mg "all" = none)
    (n_len : mg "len" = none)
    (n_isinstance : mg "isinstance" = none)
    (n_tuple : mg "tuple" = none)
    (n_set : mg "set" = none)
    (c_MOST_OPERATIONS : ∃ u, mg "MOST_OPERATIONS" = some u ∧ RelV (V.int 200) u)
    (c_VALUE : ∃ u, mg "VALUE" = some u ∧ RelV (V.int 1) u)
    (c_WRITE : ∃ u, mg "WRITE" = some u ∧ RelV (V.str "write") u)
    (c_KIND : ∃ u, mg "KIND" = some u ∧ RelV (V.int 0) u) :
    FnG P w K mg base CX0 6 f fd ["value"] spIsLog :=
  fn_g F sc_is_log (fun vs H Q E h => spIsLog_arity h) (fun cdv A outer s H vs Q E hr gd0 h => ⟨t_is_log K, PSs.nox (der_is_log g_is_operation n_all n_len n_isinstance n_tuple n_set c_MOST_OPERATIONS c_VALUE c_WRITE c_KIND hr gd0), pure_is_log h⟩)

abbrev s_parse_integer : Stmt := topS 7
abbrev N_parse_integer : List Str := ["text", "digits", "digit", "number"]
theorem sc_parse_integer : FnScope N_parse_integer ["text"] (defScope s_parse_integer) := ⟨rfl, rfl, rfl, by decide +kernel, rfl, by decide +kernel, by decide +kernel⟩

theorem der_parse_integer {f : Addr} {cdv : Value} {A : Around} {outer : List Env} {s : Shared} {H : Hp} {E : XK}
    (n_int : mg "int" = none)
    (n_all : mg "all" = none)
    (n_len : mg "len" = none)
    (n_str : mg "str" = none)
    (c_MOST_DIGITS : ∃ u, mg "MOST_DIGITS" = some u ∧ RelV (V.int 20) u)
    (hr : Room 0 (A.deeper (envOfC "parse_integer" (defScope s_parse_integer) s.heap.objs.size f cdv))) (gd : (A.deeper (envOfC "parse_integer" (defScope s_parse_integer) s.heap.objs.size f cdv)).guards = some []) :
    PSs (cxOf CX0 P w K mg base N_parse_integer "parse_integer" (defScope s_parse_integer) f cdv A outer s H E).nox (defBody s_parse_integer) (t_parse_integer K) :=
  (pss_cons (ps_set (i := 1) sc_parse_integer.nd rfl (by first | exact Or.inl rfl | exact Or.inr rfl) (pe_rmpre (pv 0) pe_str))
      (pss_cons (ps_if (PW.pt (pw_or (pt_cmpR (op_eqA (units65 hr)) (pe_callB call_len (by rfl) n_len (by decide +kernel) (pa_cons (pv 1) pa_nil)) pe_int (nomark _)) (pw_or1 (pt_cmpR op_gt (pe_callB call_len (by rfl) n_len (by decide +kernel) (pa_cons (pv 1) pa_nil)) (pe_gc (by rfl) c_MOST_DIGITS) (nomark _)))))
      (pss_one (ps_ret pe_non)) pss_nil)
      (pss_cons (ps_if (pt_not (pt_val (pe_callB (cr_all rfl) (by rfl) n_all (by decide +kernel) (pa_cons (pe_lc (own := [("digit", 2)]) (g := (gName 2)) (tt := tYes) rfl sc_parse_integer.nd (pi_str (pv 1)) (blkOk_by (N := N_parse_integer) (sc := defScope s_parse_integer) (by decide +kernel)) (fun _ _ _ _ _ => (pg_name (i := 2) sc_parse_integer.nd rfl (by first | exact Or.inl rfl | exact Or.inr rfl))) (fun _ _ _ _ _ => pts_nil) (fun _ _ _ _ _ => (pe_cmpR op_in_sign (pv 2) pe_str (by rfl)))) pa_nil))))
      (pss_one (ps_ret pe_non)) pss_nil)
      (pss_cons (ps_set (i := 3) sc_parse_integer.nd rfl (by first | exact Or.inl rfl | exact Or.inr rfl) (pe_callTy call_int_str (by rfl) n_int (by decide +kernel) (pa_cons (pv 0) pa_nil)))
      (pss_one (ps_ret (pe_ifExp (pt_cmpR (op_eqA (units65 hr)) (pe_callTy call_strS (by rfl) n_str (by decide +kernel) (pa_cons (pv 3) pa_nil)) (pv 0) (nomark _)) (pv 3) pe_non)))))))

theorem ok_parse_integer {f : Addr} {fd : FuncData} (F : Fun K "parse_integer" "parse_integer" s_parse_integer f fd)
    (n_int : mg "int" = none)
    (n_all : mg "all" = none)
    (n_len : mg "len" = none)
    (n_str : mg "str" = none)
    (c_MOST_DIGITS : ∃ u, mg "MOST_DIGITS" = some u ∧ RelV (V.int 20) u) :
    FnG P w K mg base CX0 1 f fd ["text"] spParseInt :=
  fn_g F sc_parse_integer (fun vs H Q E h => spParseInt_arity h) (fun cdv A outer s H vs Q E hr gd0 h => ⟨t_parse_integer K, PSs.nox (der_parse_integer n_int n_all n_len n_str c_MOST_DIGITS hr gd0), pure_parse_integer h⟩)

abbrev s__spaced : Stmt := topS 26
abbrev N__spaced : List Str := ["parts", "part"]
theorem sc__spaced : FnScope N__spaced ["parts"] (defScope s__spaced) := ⟨rfl, rfl, rfl, by decide +kernel, rfl, by decide +kernel, by decide +kernel⟩

theorem der__spaced {f : Addr} {cdv : Value} {A : Around} {outer : List Env} {s : Shared} {H : Hp} {E : XK}
    (n_str : mg "str" = none)
    (hr : Room 0 (A.deeper (envOfC "_spaced" (defScope s__spaced) s.heap.objs.size f cdv))) (gd : (A.deeper (envOfC "_spaced" (defScope s__spaced) s.heap.objs.size f cdv)).guards = some []) :
    PSs (cxOf CX0 P w K mg base N__spaced "_spaced" (defScope s__spaced) f cdv A outer s H E).nox (defBody s__spaced) (t__spaced K) :=
  (pss_one (ps_ret (pe_join pe_str (pe_lc (own := [("part", 1)]) (g := (gName 1)) (tt := tYes) rfl sc__spaced.nd (pi_seq (pv 0)) (blkOk_by (N := N__spaced) (sc := defScope s__spaced) (by decide +kernel)) (fun _ _ _ _ _ => (pg_name (i := 1) sc__spaced.nd rfl (by first | exact Or.inl rfl | exact Or.inr rfl))) (fun _ _ _ _ _ => pts_nil) (fun _ _ _ _ _ => (pe_callTy call_strS (by rfl) n_str (by decide +kernel) (pa_cons (pv 1) pa_nil)))))))

theorem ok__spaced {f : Addr} {fd : FuncData} (F : Fun K "_spaced" "_spaced" s__spaced f fd)
    (n_str : mg "str" = none) :
    FnG P w K mg base CX0 1 f fd ["parts"] spSpaced :=
  fn_g F sc__spaced (fun vs H Q E h => spSpaced_arity h) (fun cdv A outer s H vs Q E hr gd0 h => ⟨t__spaced K, PSs.nox (der__spaced n_str hr gd0), pure__spaced h⟩)

abbrev s_format_log : Stmt := topS 23
abbrev N_format_log : List Str := ["log", "operation"]
theorem sc_format_log : FnScope N_format_log ["log"] (defScope s_format_log) := ⟨rfl, rfl, rfl, by decide +kernel, rfl, by decide +kernel, by decide +kernel⟩

theorem der_format_log {f : Addr} {cdv : Value} {A : Around} {outer : List Env} {s : Shared} {H : Hp} {E : XK}
    (g__spaced : CalG P w K mg base CX0 1 "_spaced" spSpaced)
    (n_len : mg "len" = none)
    (c_NOTHING : ∃ u, mg "NOTHING" = some u ∧ RelV (V.str "-") u)
    (hr : Room 1 (A.deeper (envOfC "format_log" (defScope s_format_log) s.heap.objs.size f cdv))) (gd : (A.deeper (envOfC "format_log" (defScope s_format_log) s.heap.objs.size f cdv)).guards = some []) :
    PSs (cxOf CX0 P w K mg base N_format_log "format_log" (defScope s_format_log) f cdv A outer s H E).nox (defBody s_format_log) (t_format_log K) :=
  (pss_cons (ps_if (pt_cmpR (op_eqA (units65 hr)) (pe_callB call_len (by rfl) n_len (by decide +kernel) (pa_cons (pv 0) pa_nil)) pe_int (nomark _))
      (pss_one (ps_ret (pe_gc (by rfl) c_NOTHING))) pss_nil)
      (pss_one (ps_ret (pe_join pe_str (pe_lc (own := [("operation", 1)]) (g := (gName 1)) (tt := tYes) rfl sc_format_log.nd (pi_seq (pv 0)) (blkOk_by (N := N_format_log) (sc := defScope s_format_log) (by decide +kernel)) (fun _ _ _ _ _ => (pg_name (i := 1) sc_format_log.nd rfl (by first | exact Or.inl rfl | exact Or.inr rfl))) (fun _ _ _ _ _ => pts_nil) (fun _ _ _ _ _ => (pe_g g__spaced hr (by decide) gd pass0 (by rfl) (pa_cons (pv 1) pa_nil))))))))

theorem ok_format_log {f : Addr} {fd : FuncData} (F : Fun K "format_log" "format_log" s_format_log f fd)
    (g__spaced : CalG P w K mg base CX0 1 "_spaced" spSpaced)
    (n_len : mg "len" = none)
    (c_NOTHING : ∃ u, mg "NOTHING" = some u ∧ RelV (V.str "-") u) :
    FnG P w K mg base CX0 2 f fd ["log"] spFormat :=
  fn_g F sc_format_log (fun vs H Q E h => spFormat_arity h) (fun cdv A outer s H vs Q E hr gd0 h => ⟨t_format_log K, PSs.nox (der_format_log g__spaced n_len c_NOTHING hr gd0), pure_format_log h⟩)

abbrev s_chart : Stmt := topS 25
abbrev N_chart : List Str := ["log", "index", "kind", "value", "begin", "end"]
theorem sc_chart : FnScope N_chart ["log"] (defScope s_chart) := ⟨rfl, rfl, rfl, by decide +kernel, rfl, by decide +kernel, by decide +kernel⟩

theorem der_chart {f : Addr} {cdv : Value} {A : Around} {outer : List Env} {s : Shared} {H : Hp} {E : XK}
    (n_enumerate : mg "enumerate" = none)
    (hr : Room 0 (A.deeper (envOfC "chart" (defScope s_chart) s.heap.objs.size f cdv))) (gd : (A.deeper (envOfC "chart" (defScope s_chart) s.heap.objs.size f cdv)).guards = some []) :
    PSs (cxOf CX0 P w K mg base N_chart "chart" (defScope s_chart) f cdv A outer s H E).nox (defBody s_chart) (t_chart K) :=
  (pss_one (ps_ret (pe_join pe_str (pe_lc (own := [("index", 1), ("kind", 2), ("value", 3), ("begin", 4), ("end", 5)]) (g := (gTup K 2 (gCons (gName 1) (gCons (gTup K 4 (gCons (gName 2) (gCons (gName 3) (gCons (gName 4) (gCons (gName 5) gNil))))) gNil)))) (tt := tYes) rfl sc_chart.nd (pi_enA (by rfl) n_enumerate (pa_cons (pv 0) pa_nil)) (blkOk_by (N := N_chart) (sc := defScope s_chart) (by decide +kernel)) (fun _ _ _ _ _ => (pg_tup rfl (pgs_cons (pg_name (i := 1) sc_chart.nd rfl (by first | exact Or.inl rfl | exact Or.inr rfl)) (pgs_cons (pg_tup rfl (pgs_cons (pg_name (i := 2) sc_chart.nd rfl (by first | exact Or.inl rfl | exact Or.inr rfl)) (pgs_cons (pg_name (i := 3) sc_chart.nd rfl (by first | exact Or.inl rfl | exact Or.inr rfl)) (pgs_cons (pg_name (i := 4) sc_chart.nd rfl (by first | exact Or.inl rfl | exact Or.inr rfl)) (pgs_cons (pg_name (i := 5) sc_chart.nd rfl (by first | exact Or.inl rfl | exact Or.inr rfl)) pgs_nil))))) pgs_nil)))) (fun _ _ _ _ _ => pts_nil) (fun _ _ _ _ _ => (pe_joined (PJ.cons (pe_fmtI fs_r3 (pv 1) (pe_joined1 pe_str)) (PJ.cons pe_str (PJ.cons (pe_fmtS fs_l5 (pv 2) (pe_joined1 pe_str)) (PJ.cons pe_str (PJ.cons (pe_fmtI fs_r10 (pv 3) (pe_joined1 pe_str)) (PJ.cons pe_str (PJ.cons (pe_fmtI fs_r17 (pv 4) (pe_joined1 pe_str)) (PJ.cons pe_str (PJ.cons (pe_fmtI fs_r17 (pv 5) (pe_joined1 pe_str)) PJ.nil)))))))))))))))

theorem ok_chart {f : Addr} {fd : FuncData} (F : Fun K "chart" "chart" s_chart f fd)
    (n_enumerate : mg "enumerate" = none) :
    FnG P w K mg base CX0 1 f fd ["log"] spChart :=
  fn_g F sc_chart (fun vs H Q E h => spChart_arity h) (fun cdv A outer s H vs Q E hr gd0 h => ⟨t_chart K, PSs.nox (der_chart n_enumerate hr gd0), pure_chart h⟩)

abbrev s__parse_operation : Stmt := topS 28
abbrev N__parse_operation : List Str := ["line", "word", "words", "numbers", "part"]
theorem sc__parse_operation : FnScope N__parse_operation ["line"] (defScope s__parse_operation) := ⟨rfl, rfl, rfl, by decide +kernel, rfl, by decide +kernel, by decide +kernel⟩

theorem der__parse_operation {f : Addr} {cdv : Value} {A : Around} {outer : List Env} {s : Shared} {H : Hp} {E : XK}
    (g_parse_integer : CalG P w K mg base CX0 1 "parse_integer" spParseInt)
    (hr : Room 1 (A.deeper (envOfC "_parse_operation" (defScope s__parse_operation) s.heap.objs.size f cdv))) (gd : (A.deeper (envOfC "_parse_operation" (defScope s__parse_operation) s.heap.objs.size f cdv)).guards = some []) :
    PSs (cxOf CX0 P w K mg base N__parse_operation "_parse_operation" (defScope s__parse_operation) f cdv A outer s H E).nox (defBody s__parse_operation) (t__parse_operation K) :=
  (pss_cons (ps_asg (pe_split (pv 0) pe_str) (pg_star (i := 1) (j := 2) rfl sc__parse_operation.nd rfl (by first | exact Or.inl rfl | exact Or.inr rfl) rfl (by first | exact Or.inl rfl | exact Or.inr rfl)))
      (pss_cons (ps_setLc (i := 3) (own := [("part", 4)]) (g := (gName 4)) (tt := tYes) rfl sc__parse_operation.nd rfl rfl (sw_true rfl rfl rfl (by decide +kernel)) (pi_seq (pv 2)) (blkOk_by (N := N__parse_operation) (sc := defScope s__parse_operation) (by decide +kernel)) (fun _ _ _ _ _ => (pg_name (i := 4) sc__parse_operation.nd rfl (by first | exact Or.inl rfl | exact Or.inr rfl))) (fun _ _ _ _ _ => pts_nil) (fun _ _ _ _ _ => (pe_g g_parse_integer hr (by decide) gd pass0 (by rfl) (pa_cons (pv 4) pa_nil))))
      (pss_one (ps_ret (pe_tup (pa_cons (pv 1) (pa_star (pv 3) pa_nil)))))))

theorem ok__parse_operation {f : Addr} {fd : FuncData} (F : Fun K "_parse_operation" "_parse_operation" s__parse_operation f fd)
    (g_parse_integer : CalG P w K mg base CX0 1 "parse_integer" spParseInt) :
    FnG P w K mg base CX0 2 f fd ["line"] spParseOp :=
  fn_g F sc__parse_operation (fun vs H Q E h => spParseOp_arity h) (fun cdv A outer s H vs Q E hr gd0 h => ⟨t__parse_operation K, PSs.nox (der__parse_operation g_parse_integer hr gd0), pure__parse_operation h⟩)

abbrev s__parse_operations : Stmt := topS 27
abbrev N__parse_operations : List Str := ["text", "line"]
theorem sc__parse_operations : FnScope N__parse_operations ["text"] (defScope s__parse_operations) := ⟨rfl, rfl, rfl, by decide +kernel, rfl, by decide +kernel, by decide +kernel⟩

theorem der__parse_operations {f : Addr} {cdv : Value} {A : Around} {outer : List Env} {s : Shared} {H : Hp} {E : XK}
    (g__parse_operation : CalG P w K mg base CX0 2 "_parse_operation" spParseOp)
    (n_tuple : mg "tuple" = none)
    (c_NOTHING : ∃ u, mg "NOTHING" = some u ∧ RelV (V.str "-") u)
    (hr : Room 2 (A.deeper (envOfC "_parse_operations" (defScope s__parse_operations) s.heap.objs.size f cdv))) (gd : (A.deeper (envOfC "_parse_operations" (defScope s__parse_operations) s.heap.objs.size f cdv)).guards = some []) :
    PSs (cxOf CX0 P w K mg base N__parse_operations "_parse_operations" (defScope s__parse_operations) f cdv A outer s H E).nox (defBody s__parse_operations) (t__parse_operations K) :=
  (pss_cons (ps_if (pt_cmpR (op_eqA (units65 hr)) (pv 0) (pe_gc (by rfl) c_NOTHING) (nomark _))
      (pss_one (ps_ret (pe_tup pa_nil))) pss_nil)
      (pss_one (ps_ret (pe_callTy call_tuple_of (by rfl) n_tuple (by decide +kernel) (pa_cons (pe_lc (own := [("line", 1)]) (g := (gName 1)) (tt := tYes) rfl sc__parse_operations.nd (pi_seq (pe_split (pv 0) pe_str)) (blkOk_by (N := N__parse_operations) (sc := defScope s__parse_operations) (by decide +kernel)) (fun _ _ _ _ _ => (pg_name (i := 1) sc__parse_operations.nd rfl (by first | exact Or.inl rfl | exact Or.inr rfl))) (fun _ _ _ _ _ => pts_nil) (fun _ _ _ _ _ => (pe_g g__parse_operation hr (by decide) gd pass0 (by rfl) (pa_cons (pv 1) pa_nil)))) pa_nil)))))

theorem ok__parse_operations {f : Addr} {fd : FuncData} (F : Fun K "_parse_operations" "_parse_operations" s__parse_operations f fd)
    (g__parse_operation : CalG P w K mg base CX0 2 "_parse_operation" spParseOp)
    (n_tuple : mg "tuple" = none)
    (c_NOTHING : ∃ u, mg "NOTHING" = some u ∧ RelV (V.str "-") u) :
    FnG P w K mg base CX0 3 f fd ["text"] spParseOps :=
  fn_g F sc__parse_operations (fun vs H Q E h => spParseOps_arity h) (fun cdv A outer s H vs Q E hr gd0 h => ⟨t__parse_operations K, PSs.nox (der__parse_operations g__parse_operation n_tuple c_NOTHING hr gd0), pure__parse_operations h⟩)

abbrev s_parse_log : Stmt := topS 24
abbrev N_parse_log : List Str := ["text", "found"]
theorem sc_parse_log : FnScope N_parse_log ["text"] (defScope s_parse_log) := ⟨rfl, rfl, rfl, by decide +kernel, rfl, by decide +kernel, by decide +kernel⟩

theorem der_parse_log {f : Addr} {cdv : Value} {A : Around} {outer : List Env} {s : Shared} {H : Hp} {E : XK}
    (g__parse_operations : CalG P w K mg base CX0 3 "_parse_operations" spParseOps)
    (g_is_log : CalG P w K mg base CX0 6 "is_log" spIsLog)
    (n_isinstance : mg "isinstance" = none)
    (n_str : mg "str" = none)
    (hr : Room 6 (A.deeper (envOfC "parse_log" (defScope s_parse_log) s.heap.objs.size f cdv))) (gd : (A.deeper (envOfC "parse_log" (defScope s_parse_log) s.heap.objs.size f cdv)).guards = some []) :
    PSs (cxOf CX0 P w K mg base N_parse_log "parse_log" (defScope s_parse_log) f cdv A outer s H E).nox (defBody s_parse_log) (t_parse_log K) :=
  (pss_cons (ps_set (i := 1) sc_parse_log.nd rfl (by first | exact Or.inl rfl | exact Or.inr rfl) (pe_ifExp (pt_val (pe_callB call_isi (by rfl) n_isinstance (by decide +kernel) (pa_cons (pv 0) (pa_cons (pe_bltn (v := .ty "str") (by rfl) n_str (by decide +kernel) rfl) pa_nil)))) (pe_g g__parse_operations hr (by decide) gd pass0 (by rfl) (pa_cons (pv 0) pa_nil)) pe_non))
      (pss_cons (ps_if (pt_not (pt_val (pe_g g_is_log hr (by decide) gd pass0 (by rfl) (pa_cons (pv 1) pa_nil))))
      (pss_one ps_never) pss_nil)
      (pss_one (ps_ret (pv 1)))))

theorem ok_parse_log {f : Addr} {fd : FuncData} (F : Fun K "parse_log" "parse_log" s_parse_log f fd)
    (g__parse_operations : CalG P w K mg base CX0 3 "_parse_operations" spParseOps)
    (g_is_log : CalG P w K mg base CX0 6 "is_log" spIsLog)
    (n_isinstance : mg "isinstance" = none)
    (n_str : mg "str" = none) :
    FnG P w K mg base CX0 7 f fd ["text"] spParseLog :=
  fn_g F sc_parse_log (fun vs H Q E h => spParseLog_arity h) (fun cdv A outer s H vs Q E hr gd0 h => ⟨t_parse_log K, PSs.nox (der_parse_log g__parse_operations g_is_log n_isinstance n_str hr gd0), pure_parse_log h⟩)

abbrev s__law_draw : Stmt := topS 31
abbrev N__law_draw : List Str := ["_law_pot_here", "_law_many", "_law_digit", "_law_prime", "_law_mixed_here"]
theorem sc__law_draw : FnScope N__law_draw ["_law_pot_here", "_law_many"] (defScope s__law_draw) := ⟨rfl, rfl, rfl, by decide +kernel, rfl, by decide +kernel, by decide +kernel⟩

theorem der__law_draw {f : Addr} {cdv : Value} {A : Around} {outer : List Env} {s : Shared} {H : Hp} {E : XK}
    
    (hr : Room 0 (A.deeper (envOfC "_law_draw" (defScope s__law_draw) s.heap.objs.size f cdv))) (gd : (A.deeper (envOfC "_law_draw" (defScope s__law_draw) s.heap.objs.size f cdv)).guards = some []) :
    PSs (cxOf CX0 P w K mg base N__law_draw "_law_draw" (defScope s__law_draw) f cdv A outer s H E).nox (defBody s__law_draw) (tW__law_draw K) :=
  (pss_cons (ps_if (pt_cmpR op_gt (pe_ix ix_seq (pv 0) pe_int (fun _ _ => rfl)) pe_int (nomark _))
      (pss_cons (ps_set (i := 2) sc__law_draw.nd rfl (by first | exact Or.inl rfl | exact Or.inr rfl) (pe_op op_modN (pe_ix ix_seq (pv 0) pe_int (fun _ _ => rfl)) (pv 1)))
      (pss_cons (ps_asg (pe_op op_fdivW (pe_ix ix_seq (pv 0) pe_int (fun _ _ => rfl)) (pv 1)) (pg_sub (pv 0) pe_int set_list))
      (pss_one (ps_ret (pv 2))))) pss_nil)
      (pss_cons (ps_asg (pe_op op_addA (pe_ix ix_seq (pv 0) pe_int (fun _ _ => rfl)) pe_int) (pg_sub (pv 0) pe_int set_list))
      (pss_cons (ps_set (i := 3) sc__law_draw.nd rfl (by first | exact Or.inl rfl | exact Or.inr rfl) (pe_ix ix_seq (pe_lst (pa_cons pe_int (pa_cons pe_int (pa_cons pe_int (pa_cons pe_int (pa_cons pe_int pa_nil)))))) (pe_op op_modN (pe_ix ix_seq (pv 0) pe_int (fun _ _ => rfl)) pe_int) (fun _ _ => rfl)))
      (pss_cons (ps_set (i := 4) sc__law_draw.nd rfl (by first | exact Or.inl rfl | exact Or.inr rfl) (pe_op op_modN (pe_op op_powW (pe_op op_addA (pe_op op_addA (pe_ix ix_seq (pv 0) pe_int (fun _ _ => rfl)) (pe_op op_mulA (pe_op op_mulA pe_int (pe_ix ix_seq (pv 0) pe_int (fun _ _ => rfl))) (pe_ix ix_seq (pv 0) pe_int (fun _ _ => rfl)))) pe_int) pe_int) (pv 3)))
      (pss_one (ps_ret (pe_op op_modN (pe_op op_fdivN (pe_op op_modN (pe_op op_mulA (pv 4) (pe_op op_addA (pe_op op_modN (pv 4) pe_int) (pe_op op_mulA pe_int (pe_ix ix_seq (pv 0) pe_int (fun _ _ => rfl))))) pe_int) pe_int) (pv 1))))))))

theorem ok__law_draw {f : Addr} {fd : FuncData} (F : Fun K "_law_draw" "_law_draw" s__law_draw f fd)
     :
    FnG P w K mg base CX0 1 f fd ["_law_pot_here", "_law_many"] spDrawW :=
  fn_g F sc__law_draw (fun vs H Q E h => spDrawW_arity h) (fun cdv A outer s H vs Q E hr gd0 h => ⟨tW__law_draw K, PSs.nox (der__law_draw  hr gd0), pureW__law_draw h⟩)

abbrev s__law_pot : Stmt := topS 30
abbrev N__law_pot : List Str := ["_law_script", "_law_k", "_law_cell", "_law_own"]
theorem sc__law_pot : FnScope N__law_pot ["_law_script", "_law_k"] (defScope s__law_pot) := ⟨rfl, rfl, rfl, by decide +kernel, rfl, by decide +kernel, by decide +kernel⟩

theorem der__law_pot {f : Addr} {cdv : Value} {A : Around} {outer : List Env} {s : Shared} {H : Hp} {E : XK}
    (n_len : mg "len" = none)
    (n_int : mg "int" = none)
    (n_abs : mg "abs" = none)
    (hr : Room 0 (A.deeper (envOfC "_law_pot" (defScope s__law_pot) s.heap.objs.size f cdv))) (gd : (A.deeper (envOfC "_law_pot" (defScope s__law_pot) s.heap.objs.size f cdv)).guards = some []) :
    PSs (cxOf CX0 P w K mg base N__law_pot "_law_pot" (defScope s__law_pot) f cdv A outer s H E).nox (defBody s__law_pot) (t__law_pot K) :=
  (pss_cons (ps_set (i := 2) sc__law_pot.nd rfl (by first | exact Or.inl rfl | exact Or.inr rfl) (pe_op op_addA (pe_op op_mulA pe_int (pv 1)) pe_int))
      (pss_cons (ps_if (pt_cmpR op_lt (pv 1) (pe_callB call_len (by rfl) n_len (by decide +kernel) (pa_cons (pv 0) pa_nil)) (nomark _))
      (pss_one (ps_set (i := 2) sc__law_pot.nd rfl (by first | exact Or.inl rfl | exact Or.inr rfl) (pe_ix ix_seq (pv 0) (pv 1) (fun _ _ => rfl)))) pss_nil)
      (pss_cons (ps_set (i := 3) sc__law_pot.nd rfl (by first | exact Or.inl rfl | exact Or.inr rfl) (pe_op op_mulA (pe_op op_modN (pe_callB call_abs (by rfl) n_abs (by decide +kernel) (pa_cons (pv 2) pa_nil)) (pe_op op_powW (pe_op op_powW pe_int pe_int) pe_int)) (pe_callTy call_int1 (by rfl) n_int (by decide +kernel) (pa_cons (pe_cmpR op_ge (pe_callB call_abs (by rfl) n_abs (by decide +kernel) (pa_cons (pv 2) pa_nil)) (pe_op op_powW pe_int pe_int) (nomark _)) pa_nil))))
      (pss_one (ps_ret (pe_lst (pa_cons (pv 3) (pa_cons (pe_op op_modN (pe_op op_addA (pe_op op_addA (pe_op op_mulA (pe_op op_modN (pv 2) pe_int) pe_int) (pe_op op_mulA (pe_op op_mulA pe_int (pv 1)) (pv 1))) pe_int) pe_int) (pa_cons pe_int pa_nil)))))))))

theorem ok__law_pot {f : Addr} {fd : FuncData} (F : Fun K "_law_pot" "_law_pot" s__law_pot f fd)
    (n_len : mg "len" = none)
    (n_int : mg "int" = none)
    (n_abs : mg "abs" = none) :
    FnG P w K mg base CX0 1 f fd ["_law_script", "_law_k"] (spPot K) :=
  fn_g F sc__law_pot (fun vs H Q E h => spPot_arity h) (fun cdv A outer s H vs Q E hr gd0 h => ⟨t__law_pot K, PSs.nox (der__law_pot n_len n_int n_abs hr gd0), pure__law_pot h⟩)

abbrev s__law_any : Stmt := topS 32
abbrev N__law_any : List Str := ["_law_pot_here", "_law_items"]
theorem sc__law_any : FnScope N__law_any ["_law_pot_here", "_law_items"] (defScope s__law_any) := ⟨rfl, rfl, rfl, by decide +kernel, rfl, by decide +kernel, by decide +kernel⟩

theorem der__law_any {f : Addr} {cdv : Value} {A : Around} {outer : List Env} {s : Shared} {H : Hp} {E : XK}
    (g__law_draw : CalG P w K mg base CX0 1 "_law_draw" spDraw)
    (n_len : mg "len" = none)
    (hr : Room 1 (A.deeper (envOfC "_law_any" (defScope s__law_any) s.heap.objs.size f cdv))) (gd : (A.deeper (envOfC "_law_any" (defScope s__law_any) s.heap.objs.size f cdv)).guards = some []) :
    PSs (cxOf CX0 P w K mg base N__law_any "_law_any" (defScope s__law_any) f cdv A outer s H E).nox (defBody s__law_any) (t__law_any K) :=
  (pss_one (ps_ret (pe_ix ix_seq (pv 1) (pe_g g__law_draw hr (by decide) gd pass0 (by rfl) (pa_cons (pv 0) (pa_cons (pe_callB call_len (by rfl) n_len (by decide +kernel) (pa_cons (pv 1) pa_nil)) pa_nil))) (fun _ _ => rfl))))

theorem ok__law_any {f : Addr} {fd : FuncData} (F : Fun K "_law_any" "_law_any" s__law_any f fd)
    (g__law_draw : CalG P w K mg base CX0 1 "_law_draw" spDraw)
    (n_len : mg "len" = none) :
    FnG P w K mg base CX0 2 f fd ["_law_pot_here", "_law_items"] (spAny K) :=
  fn_g F sc__law_any (fun vs H Q E h => spAny_arity h) (fun cdv A outer s H vs Q E hr gd0 h => ⟨t__law_any K, PSs.nox (der__law_any g__law_draw n_len hr gd0), pure__law_any h⟩)

abbrev s__law_mixed : Stmt := topS 33
abbrev N__law_mixed : List Str := ["_law_pot_here", "_law_items", "_law_left", "_law_found"]
theorem sc__law_mixed : FnScope N__law_mixed ["_law_pot_here", "_law_items"] (defScope s__law_mixed) := ⟨rfl, rfl, rfl, by decide +kernel, rfl, by decide +kernel, by decide +kernel⟩

theorem der__law_mixed {f : Addr} {cdv : Value} {A : Around} {outer : List Env} {s : Shared} {H : Hp} {E : XK}
    (g__law_draw : CalG P w K mg base CX0 1 "_law_draw" spDraw)
    (n_list : mg "list" = none)
    (n_len : mg "len" = none)
    (hr : Room 1 (A.deeper (envOfC "_law_mixed" (defScope s__law_mixed) s.heap.objs.size f cdv))) (gd : (A.deeper (envOfC "_law_mixed" (defScope s__law_mixed) s.heap.objs.size f cdv)).guards = some []) :
    PSs (cxOf CX0 P w K mg base N__law_mixed "_law_mixed" (defScope s__law_mixed) f cdv A outer s H E).nox (defBody s__law_mixed) (t__law_mixed K) :=
  (pss_cons (ps_par (i := 2) (j := 3) (by rfl) sc__law_mixed.nd rfl rfl (by decide) rfl rfl (pa_cons (pe_callTy call_list_of (by rfl) n_list (by decide +kernel) (pa_cons (pv 1) pa_nil)) (pa_cons (pe_lst pa_nil) pa_nil)) (by rfl))
      (pss_cons (ps_while PassesOwn.never (pt_cmpR (op_neA (units65 hr)) (pv 2) (pe_lst pa_nil) (nomark _))
      (pss_one (ps_expr (pe_bm PySem.F.plainAttrs_list PySem.F.slot_list_append PySem.F.type_list_append mt_append (pv 3) (pa_cons (pe_bm PySem.F.plainAttrs_list PySem.F.slot_list_pop PySem.F.type_list_pop mt_popA (pv 2) (pa_cons (pe_g g__law_draw hr (by decide) gd pass0 (by rfl) (pa_cons (pv 0) (pa_cons (pe_callB call_len (by rfl) n_len (by decide +kernel) (pa_cons (pv 2) pa_nil)) pa_nil))) pa_nil)) pa_nil)))))
      (pss_one (ps_ret (pv 3)))))

theorem ok__law_mixed {f : Addr} {fd : FuncData} (F : Fun K "_law_mixed" "_law_mixed" s__law_mixed f fd)
    (g__law_draw : CalG P w K mg base CX0 1 "_law_draw" spDraw)
    (n_list : mg "list" = none)
    (n_len : mg "len" = none) :
    FnG P w K mg base CX0 2 f fd ["_law_pot_here", "_law_items"] (spMixed K) :=
  fn_g F sc__law_mixed (fun vs H Q E h => spMixed_arity h) (fun cdv A outer s H vs Q E hr gd0 h => ⟨t__law_mixed K, PSs.nox (der__law_mixed g__law_draw n_list n_len hr gd0), pure__law_mixed h⟩)

abbrev s__law_wild : Stmt := topS 34
abbrev N__law_wild : List Str := ["_law_pot_here", "_law_most", "_law_room", "_law_found", "_law_written", "_law_turn", "_law_kind", "_law_value", "_law_begin", "_law_some"]
theorem sc__law_wild : FnScope N__law_wild ["_law_pot_here", "_law_most", "_law_room"] (defScope s__law_wild) := ⟨rfl, rfl, rfl, by decide +kernel, rfl, by decide +kernel, by decide +kernel⟩

theorem der__law_wild {f : Addr} {cdv : Value} {A : Around} {outer : List Env} {s : Shared} {H : Hp} {E : XK}
    (g__law_draw : CalG P w K mg base CX0 1 "_law_draw" spDraw)
    (g__law_mixed : CalG P w K mg base CX0 2 "_law_mixed" (spMixed K))
    (g__law_any : CalG P w K mg base CX0 2 "_law_any" (spAny K))
    (n_range : mg "range" = none)
    (n_tuple : mg "tuple" = none)
    (hr : Room 2 (A.deeper (envOfC "_law_wild" (defScope s__law_wild) s.heap.objs.size f cdv))) (gd : (A.deeper (envOfC "_law_wild" (defScope s__law_wild) s.heap.objs.size f cdv)).guards = some []) :
    PSs (cxOf CX0 P w K mg base N__law_wild "_law_wild" (defScope s__law_wild) f cdv A outer s H E).nox (defBody s__law_wild) (t__law_wild K) :=
  (pss_cons (ps_par (i := 3) (j := 4) (by rfl) sc__law_wild.nd rfl rfl (by decide) rfl rfl (pa_cons (pe_lst pa_nil) (pa_cons (pe_lst pa_nil) pa_nil)) (by rfl))
      (pss_cons (ps_for PassesOwn.never rfl (pi_range1 (by rfl) n_range (pa_cons (pe_g g__law_draw hr (by decide) gd pass0 (by rfl) (pa_cons (pv 0) (pa_cons (pe_op op_addA (pv 1) pe_int) pa_nil))) pa_nil)) (pg_name (i := 5) sc__law_wild.nd rfl (by first | exact Or.inl rfl | exact Or.inr rfl))
      (pss_cons (ps_par (i := 6) (j := 7) (by rfl) sc__law_wild.nd rfl rfl (by decide) rfl rfl (pa_cons (pe_g g__law_any hr (by decide) gd pass0 (by rfl) (pa_cons (pv 0) (pa_cons (pe_lst (pa_cons pe_str (pa_cons pe_str (pa_cons pe_str pa_nil)))) pa_nil))) (pa_cons (pe_g g__law_draw hr (by decide) gd pass0 (by rfl) (pa_cons (pv 0) (pa_cons pe_int pa_nil))) pa_nil)) (by rfl))
      (pss_cons (ps_set (i := 8) sc__law_wild.nd rfl (by first | exact Or.inl rfl | exact Or.inr rfl) (pe_g g__law_draw hr (by decide) gd pass0 (by rfl) (pa_cons (pv 0) (pa_cons (pv 2) pa_nil))))
      (pss_one (ps_if (PW.pt (pw_and (pt_cmpR (op_eqA (units65 hr)) (pv 6) pe_str (nomark _)) (pw_and (pt_cmpR op_gt (pv 7) pe_int (nomark _)) (pw_and1 (pt_cmpR (op_niA (units65 hr)) (pv 7) (pv 4) (by rfl))))))
      (pss_cons (ps_expr (pe_bm PySem.F.plainAttrs_list PySem.F.slot_list_append PySem.F.type_list_append mt_append (pv 4) (pa_cons (pv 7) pa_nil)))
      (pss_one (ps_expr (pe_bm PySem.F.plainAttrs_list PySem.F.slot_list_append PySem.F.type_list_append mt_append (pv 3) (pa_cons (pe_tup (pa_cons pe_str (pa_cons (pv 7) (pa_cons (pv 8) (pa_cons (pe_op op_addA (pv 8) (pe_g g__law_draw hr (by decide) gd pass0 (by rfl) (pa_cons (pv 0) (pa_cons (pe_op op_addA (pe_op op_fdivN (pv 2) pe_int) pe_int) pa_nil)))) pa_nil))))) pa_nil))))) (pss_cons (ps_set (i := 9) sc__law_wild.nd rfl (by first | exact Or.inl rfl | exact Or.inr rfl) (pe_op op_addA (pv 4) (pe_lst (pa_cons pe_int pa_nil))))
      (pss_cons (ps_set (i := 7) sc__law_wild.nd rfl (by first | exact Or.inl rfl | exact Or.inr rfl) (pe_g g__law_any hr (by decide) gd pass0 (by rfl) (pa_cons (pv 0) (pa_cons (pe_op op_addA (pe_op op_addA (pv 9) (pv 9)) (pe_lst (pa_cons (pv 7) pa_nil))) pa_nil))))
      (pss_one (ps_expr (pe_bm PySem.F.plainAttrs_list PySem.F.slot_list_append PySem.F.type_list_append mt_append (pv 3) (pa_cons (pe_tup (pa_cons pe_str (pa_cons (pv 7) (pa_cons (pv 8) (pa_cons (pe_op op_addA (pv 8) (pe_g g__law_draw hr (by decide) gd pass0 (by rfl) (pa_cons (pv 0) (pa_cons (pe_op op_addA (pe_op op_fdivN (pv 2) pe_int) pe_int) pa_nil)))) pa_nil))))) pa_nil)))))))))))
      (pss_one (ps_ret (pe_callTy call_tuple_of (by rfl) n_tuple (by decide +kernel) (pa_cons (pe_g g__law_mixed hr (by decide) gd pass0 (by rfl) (pa_cons (pv 0) (pa_cons (pv 3) pa_nil))) pa_nil))))))

theorem ok__law_wild {f : Addr} {fd : FuncData} (F : Fun K "_law_wild" "_law_wild" s__law_wild f fd)
    (g__law_draw : CalG P w K mg base CX0 1 "_law_draw" spDraw)
    (g__law_mixed : CalG P w K mg base CX0 2 "_law_mixed" (spMixed K))
    (g__law_any : CalG P w K mg base CX0 2 "_law_any" (spAny K))
    (n_range : mg "range" = none)
    (n_tuple : mg "tuple" = none) :
    FnG P w K mg base CX0 3 f fd ["_law_pot_here", "_law_most", "_law_room"] spWild :=
  fn_g F sc__law_wild (fun vs H Q E h => spWild_arity h) (fun cdv A outer s H vs Q E hr gd0 h => ⟨t__law_wild K, PSs.nox (der__law_wild g__law_draw g__law_mixed g__law_any n_range n_tuple hr gd0), pure__law_wild h⟩)

abbrev s__law_true : Stmt := topS 35
abbrev N__law_true : List Str := ["_law_pot_here", "_law_many", "_law_off", "_law_step", "_law_found", "_law_value", "_law_time", "_law_names", "_law_turn", "_law_kind", "_law_ends", "_law_begin", "_law_end"]
theorem sc__law_true : FnScope N__law_true ["_law_pot_here", "_law_many", "_law_off", "_law_step"] (defScope s__law_true) := ⟨rfl, rfl, rfl, by decide +kernel, rfl, by decide +kernel, by decide +kernel⟩

theorem der__law_true {f : Addr} {cdv : Value} {A : Around} {outer : List Env} {s : Shared} {H : Hp} {E : XK}
    (g__law_mixed : CalG P w K mg base CX0 2 "_law_mixed" (spMixed K))
    (g__law_any : CalG P w K mg base CX0 2 "_law_any" (spAny K))
    (g__law_draw : CalG P w K mg base CX0 1 "_law_draw" spDraw)
    (n_range : mg "range" = none)
    (n_tuple : mg "tuple" = none)
    (n_list : mg "list" = none)
    (n_min : mg "min" = none)
    (n_max : mg "max" = none)
    (hr : Room 2 (A.deeper (envOfC "_law_true" (defScope s__law_true) s.heap.objs.size f cdv))) (gd : (A.deeper (envOfC "_law_true" (defScope s__law_true) s.heap.objs.size f cdv)).guards = some []) :
    PSs (cxOf CX0 P w K mg base N__law_true "_law_true" (defScope s__law_true) f cdv A outer s H E).nox (defBody s__law_true) (t__law_true K) :=
  (pss_cons (ps_par3 (i := 4) (j := 5) (l := 6) (by rfl) sc__law_true.nd rfl rfl rfl (by decide) (by decide) (by decide) rfl rfl rfl (pa_cons (pe_lst pa_nil) (pa_cons pe_int (pa_cons (pe_g g__law_any hr (by decide) gd pass0 (by rfl) (pa_cons (pv 0) (pa_cons (pe_lst (pa_cons pe_int (pa_cons (pe_un un_neg pe_int) (pa_cons (pe_op op_powW pe_int pe_int) pa_nil)))) pa_nil))) pa_nil))) (by rfl))
      (pss_cons (ps_set (i := 7) sc__law_true.nd rfl (by first | exact Or.inl rfl | exact Or.inr rfl) (pe_g g__law_mixed hr (by decide) gd pass0 (by rfl) (pa_cons (pv 0) (pa_cons (pe_listRg rfl (by rfl) n_list (prg_2 (by rfl) n_range pe_int (pe_op op_addA (pv 1) pe_int))) pa_nil))))
      (pss_cons (ps_for PassesOwn.never rfl (pi_range1 (by rfl) n_range (pa_cons (pv 1) pa_nil)) (pg_name (i := 8) sc__law_true.nd rfl (by first | exact Or.inl rfl | exact Or.inr rfl))
      (pss_cons (ps_set (i := 6) sc__law_true.nd rfl (by first | exact Or.inl rfl | exact Or.inr rfl) (pe_op op_addA (pv 6) (pe_g g__law_draw hr (by decide) gd pass0 (by rfl) (pa_cons (pv 0) (pa_cons (pe_op op_addA (pv 3) pe_int) pa_nil)))))
      (pss_cons (ps_set (i := 9) sc__law_true.nd rfl (by first | exact Or.inl rfl | exact Or.inr rfl) (pe_g g__law_any hr (by decide) gd pass0 (by rfl) (pa_cons (pv 0) (pa_cons (pe_lst (pa_cons pe_str (pa_cons pe_str (pa_cons pe_str pa_nil)))) pa_nil))))
      (pss_cons (ps_if (pt_cmpR (op_eqA (units65 hr)) (pv 9) pe_str (nomark _))
      (pss_one (ps_set (i := 5) sc__law_true.nd rfl (by first | exact Or.inl rfl | exact Or.inr rfl) (pe_ix ix_seq (pv 7) (pv 8) (fun _ _ => rfl)))) pss_nil)
      (pss_cons (ps_set (i := 10) sc__law_true.nd rfl (by first | exact Or.inl rfl | exact Or.inr rfl) (pe_tup (pa_cons (pe_op op_sub (pv 6) (pe_g g__law_draw hr (by decide) gd pass0 (by rfl) (pa_cons (pv 0) (pa_cons (pe_op op_addA (pv 3) pe_int) pa_nil)))) (pa_cons (pe_op op_addA (pv 6) (pe_g g__law_draw hr (by decide) gd pass0 (by rfl) (pa_cons (pv 0) (pa_cons (pe_op op_addA (pv 3) pe_int) pa_nil)))) pa_nil))))
      (pss_cons (ps_set (i := 11) sc__law_true.nd rfl (by first | exact Or.inl rfl | exact Or.inr rfl) (pe_op op_addA (pe_op op_sub (pe_ix ix_seq (pv 10) pe_int (fun _ _ => rfl)) (pv 2)) (pe_g g__law_draw hr (by decide) gd pass0 (by rfl) (pa_cons (pv 0) (pa_cons (pe_op op_addA (pe_op op_mulA pe_int (pv 2)) pe_int) pa_nil)))))
      (pss_cons (ps_set (i := 12) sc__law_true.nd rfl (by first | exact Or.inl rfl | exact Or.inr rfl) (pe_op op_addA (pe_op op_sub (pe_ix ix_seq (pv 10) pe_int (fun _ _ => rfl)) (pv 2)) (pe_g g__law_draw hr (by decide) gd pass0 (by rfl) (pa_cons (pv 0) (pa_cons (pe_op op_addA (pe_op op_mulA pe_int (pv 2)) pe_int) pa_nil)))))
      (pss_one (ps_expr (pe_bm PySem.F.plainAttrs_list PySem.F.slot_list_append PySem.F.type_list_append mt_append (pv 4) (pa_cons (pe_tup (pa_cons (pv 9) (pa_cons (pv 5) (pa_cons (pe_callB (call_min2 rfl) (by rfl) n_min (by decide +kernel) (pa_cons (pv 11) (pa_cons (pv 12) pa_nil))) (pa_cons (pe_callB (call_max2 rfl) (by rfl) n_max (by decide +kernel) (pa_cons (pv 11) (pa_cons (pv 12) pa_nil))) pa_nil))))) pa_nil)))))))))))
      (pss_one (ps_ret (pe_callTy call_tuple_of (by rfl) n_tuple (by decide +kernel) (pa_cons (pe_g g__law_mixed hr (by decide) gd pass0 (by rfl) (pa_cons (pv 0) (pa_cons (pv 4) pa_nil))) pa_nil)))))))

theorem ok__law_true {f : Addr} {fd : FuncData} (F : Fun K "_law_true" "_law_true" s__law_true f fd)
    (g__law_mixed : CalG P w K mg base CX0 2 "_law_mixed" (spMixed K))
    (g__law_any : CalG P w K mg base CX0 2 "_law_any" (spAny K))
    (g__law_draw : CalG P w K mg base CX0 1 "_law_draw" spDraw)
    (n_range : mg "range" = none)
    (n_tuple : mg "tuple" = none)
    (n_list : mg "list" = none)
    (n_min : mg "min" = none)
    (n_max : mg "max" = none) :
    FnG P w K mg base CX0 3 f fd ["_law_pot_here", "_law_many", "_law_off", "_law_step"] spTrue :=
  fn_g F sc__law_true (fun vs H Q E h => spTrue_arity h) (fun cdv A outer s H vs Q E hr gd0 h => ⟨t__law_true K, PSs.nox (der__law_true g__law_mixed g__law_any g__law_draw n_range n_tuple n_list n_min n_max hr gd0), pure__law_true h⟩)

abbrev s__law_row : Stmt := topS 36
abbrev N__law_row : List Str := ["_law_operation", "_law_part"]
theorem sc__law_row : FnScope N__law_row ["_law_operation"] (defScope s__law_row) := ⟨rfl, rfl, rfl, by decide +kernel, rfl, by decide +kernel, by decide +kernel⟩

theorem der__law_row {f : Addr} {cdv : Value} {A : Around} {outer : List Env} {s : Shared} {H : Hp} {E : XK}
    (n_str : mg "str" = none)
    (hr : Room 0 (A.deeper (envOfC "_law_row" (defScope s__law_row) s.heap.objs.size f cdv))) (gd : (A.deeper (envOfC "_law_row" (defScope s__law_row) s.heap.objs.size f cdv)).guards = some []) :
    PSs (cxOf CX0 P w K mg base N__law_row "_law_row" (defScope s__law_row) f cdv A outer s H E).nox (defBody s__law_row) (t__law_row K) :=
  (pss_one (ps_ret (pe_join pe_str (pe_lc (own := [("_law_part", 1)]) (g := (gName 1)) (tt := tYes) rfl sc__law_row.nd (pi_seq (pv 0)) (blkOk_by (N := N__law_row) (sc := defScope s__law_row) (by decide +kernel)) (fun _ _ _ _ _ => (pg_name (i := 1) sc__law_row.nd rfl (by first | exact Or.inl rfl | exact Or.inr rfl))) (fun _ _ _ _ _ => pts_nil) (fun _ _ _ _ _ => (pe_callTy call_strS (by rfl) n_str (by decide +kernel) (pa_cons (pv 1) pa_nil)))))))

theorem ok__law_row {f : Addr} {fd : FuncData} (F : Fun K "_law_row" "_law_row" s__law_row f fd)
    (n_str : mg "str" = none) :
    FnG P w K mg base CX0 1 f fd ["_law_operation"] spSpaced :=
  fn_g F sc__law_row (fun vs H Q E h => spSpaced_arity h) (fun cdv A outer s H vs Q E hr gd0 h => ⟨t__law_row K, PSs.nox (der__law_row n_str hr gd0), pure__law_row h⟩)

abbrev s__law_page : Stmt := topS 37
abbrev N__law_page : List Str := ["_law_log", "_law_one"]
theorem sc__law_page : FnScope N__law_page ["_law_log"] (defScope s__law_page) := ⟨rfl, rfl, rfl, by decide +kernel, rfl, by decide +kernel, by decide +kernel⟩

theorem der__law_page {f : Addr} {cdv : Value} {A : Around} {outer : List Env} {s : Shared} {H : Hp} {E : XK}
    (g__law_row : CalG P w K mg base CX0 1 "_law_row" spSpaced)
    (hr : Room 1 (A.deeper (envOfC "_law_page" (defScope s__law_page) s.heap.objs.size f cdv))) (gd : (A.deeper (envOfC "_law_page" (defScope s__law_page) s.heap.objs.size f cdv)).guards = some []) :
    PSs (cxOf CX0 P w K mg base N__law_page "_law_page" (defScope s__law_page) f cdv A outer s H E).nox (defBody s__law_page) (t__law_page K) :=
  (pss_one (ps_ret (pe_ifExp (pt_cmpR (op_neA (units65 hr)) (pv 0) (pe_tup pa_nil) (nomark _)) (pe_join pe_str (pe_lc (own := [("_law_one", 1)]) (g := (gName 1)) (tt := tYes) rfl sc__law_page.nd (pi_seq (pv 0)) (blkOk_by (N := N__law_page) (sc := defScope s__law_page) (by decide +kernel)) (fun _ _ _ _ _ => (pg_name (i := 1) sc__law_page.nd rfl (by first | exact Or.inl rfl | exact Or.inr rfl))) (fun _ _ _ _ _ => pts_nil) (fun _ _ _ _ _ => (pe_g g__law_row hr (by decide) gd pass0 (by rfl) (pa_cons (pv 1) pa_nil))))) pe_str)))

theorem ok__law_page {f : Addr} {fd : FuncData} (F : Fun K "_law_page" "_law_page" s__law_page f fd)
    (g__law_row : CalG P w K mg base CX0 1 "_law_row" spSpaced) :
    FnG P w K mg base CX0 2 f fd ["_law_log"] spFormat :=
  fn_g F sc__law_page (fun vs H Q E h => spFormat_arity h) (fun cdv A outer s H vs Q E hr gd0 h => ⟨t__law_page K, PSs.nox (der__law_page g__law_row hr gd0), pure__law_page h⟩)

abbrev s__law_filled : Stmt := topS 38
abbrev N__law_filled : List Str := ["_law_word", "_law_wide", "_law_is_left", "_law_room"]
theorem sc__law_filled : FnScope N__law_filled ["_law_word", "_law_wide", "_law_is_left"] (defScope s__law_filled) := ⟨rfl, rfl, rfl, by decide +kernel, rfl, by decide +kernel, by decide +kernel⟩

theorem der__law_filled {f : Addr} {cdv : Value} {A : Around} {outer : List Env} {s : Shared} {H : Hp} {E : XK}
    (n_len : mg "len" = none)
    (hr : Room 0 (A.deeper (envOfC "_law_filled" (defScope s__law_filled) s.heap.objs.size f cdv))) (gd : (A.deeper (envOfC "_law_filled" (defScope s__law_filled) s.heap.objs.size f cdv)).guards = some []) :
    PSs (cxOf CX0 P w K mg base N__law_filled "_law_filled" (defScope s__law_filled) f cdv A outer s H E).nox (defBody s__law_filled) (t__law_filled K) :=
  (pss_cons (ps_set (i := 3) sc__law_filled.nd rfl (by first | exact Or.inl rfl | exact Or.inr rfl) (pe_op op_mulS pe_str (pe_op op_sub (pv 1) (pe_callB call_len (by rfl) n_len (by decide +kernel) (pa_cons (pv 0) pa_nil)))))
      (pss_one (ps_ret (pe_ifExp (pt_truth (pv 2) (by intro _; rfl)) (pe_op op_addA (pv 0) (pv 3)) (pe_op op_addA (pv 3) (pv 0))))))

theorem ok__law_filled {f : Addr} {fd : FuncData} (F : Fun K "_law_filled" "_law_filled" s__law_filled f fd)
    (n_len : mg "len" = none) :
    FnG P w K mg base CX0 1 f fd ["_law_word", "_law_wide", "_law_is_left"] spFilled :=
  fn_g F sc__law_filled (fun vs H Q E h => spFilled_arity h) (fun cdv A outer s H vs Q E hr gd0 h => ⟨t__law_filled K, PSs.nox (der__law_filled n_len hr gd0), pure__law_filled h⟩)

abbrev s__law_lines : Stmt := topS 39
abbrev N__law_lines : List Str := ["_law_log", "_law_found", "_law_at", "_law_kind", "_law_worth", "_law_early", "_law_late", "_law_some"]
theorem sc__law_lines : FnScope N__law_lines ["_law_log"] (defScope s__law_lines) := ⟨rfl, rfl, rfl, by decide +kernel, rfl, by decide +kernel, by decide +kernel⟩

theorem der__law_lines {f : Addr} {cdv : Value} {A : Around} {outer : List Env} {s : Shared} {H : Hp} {E : XK}
    (g__law_filled : CalG P w K mg base CX0 1 "_law_filled" spFilled)
    (n_enumerate : mg "enumerate" = none)
    (n_str : mg "str" = none)
    (hr : Room 1 (A.deeper (envOfC "_law_lines" (defScope s__law_lines) s.heap.objs.size f cdv))) (gd : (A.deeper (envOfC "_law_lines" (defScope s__law_lines) s.heap.objs.size f cdv)).guards = some []) :
    PSs (cxOf CX0 P w K mg base N__law_lines "_law_lines" (defScope s__law_lines) f cdv A outer s H E).nox (defBody s__law_lines) (t__law_lines K) :=
  (pss_cons (ps_set (i := 1) sc__law_lines.nd rfl (by first | exact Or.inl rfl | exact Or.inr rfl) (pe_lst pa_nil))
      (pss_cons (ps_for PassesOwn.never rfl (pi_enA (by rfl) n_enumerate (pa_cons (pv 0) pa_nil)) (pg_tup rfl (pgs_cons (pg_name (i := 2) sc__law_lines.nd rfl (by first | exact Or.inl rfl | exact Or.inr rfl)) (pgs_cons (pg_tup rfl (pgs_cons (pg_name (i := 3) sc__law_lines.nd rfl (by first | exact Or.inl rfl | exact Or.inr rfl)) (pgs_cons (pg_name (i := 4) sc__law_lines.nd rfl (by first | exact Or.inl rfl | exact Or.inr rfl)) (pgs_cons (pg_name (i := 5) sc__law_lines.nd rfl (by first | exact Or.inl rfl | exact Or.inr rfl)) (pgs_cons (pg_name (i := 6) sc__law_lines.nd rfl (by first | exact Or.inl rfl | exact Or.inr rfl)) pgs_nil))))) pgs_nil)))
      (pss_cons (ps_set (i := 7) sc__law_lines.nd rfl (by first | exact Or.inl rfl | exact Or.inr rfl) (pe_lst (pa_cons (pe_g g__law_filled hr (by decide) gd pass0 (by rfl) (pa_cons (pe_callTy call_strS (by rfl) n_str (by decide +kernel) (pa_cons (pv 2) pa_nil)) (pa_cons pe_int (pa_cons pe_bl pa_nil)))) (pa_cons (pe_g g__law_filled hr (by decide) gd pass0 (by rfl) (pa_cons (pv 3) (pa_cons pe_int (pa_cons pe_bl pa_nil)))) (pa_cons (pe_g g__law_filled hr (by decide) gd pass0 (by rfl) (pa_cons (pe_callTy call_strS (by rfl) n_str (by decide +kernel) (pa_cons (pv 4) pa_nil)) (pa_cons pe_int (pa_cons pe_bl pa_nil)))) pa_nil)))))
      (pss_one (ps_expr (pe_bm PySem.F.plainAttrs_list PySem.F.slot_list_append PySem.F.type_list_append mt_append (pv 1) (pa_cons (pe_join pe_str (pe_op op_addA (pv 7) (pe_lst (pa_cons (pe_g g__law_filled hr (by decide) gd pass0 (by rfl) (pa_cons (pe_callTy call_strS (by rfl) n_str (by decide +kernel) (pa_cons (pv 5) pa_nil)) (pa_cons pe_int (pa_cons pe_bl pa_nil)))) (pa_cons (pe_g g__law_filled hr (by decide) gd pass0 (by rfl) (pa_cons (pe_callTy call_strS (by rfl) n_str (by decide +kernel) (pa_cons (pv 6) pa_nil)) (pa_cons pe_int (pa_cons pe_bl pa_nil)))) pa_nil))))) pa_nil))))))
      (pss_one (ps_ret (pe_join pe_str (pv 1))))))

theorem ok__law_lines {f : Addr} {fd : FuncData} (F : Fun K "_law_lines" "_law_lines" s__law_lines f fd)
    (g__law_filled : CalG P w K mg base CX0 1 "_law_filled" spFilled)
    (n_enumerate : mg "enumerate" = none)
    (n_str : mg "str" = none) :
    FnG P w K mg base CX0 2 f fd ["_law_log"] spChart :=
  fn_g F sc__law_lines (fun vs H Q E h => spChart_arity h) (fun cdv A outer s H vs Q E hr gd0 h => ⟨t__law_lines K, PSs.nox (der__law_lines g__law_filled n_enumerate n_str hr gd0), pure__law_lines h⟩)

abbrev s__law_far : Stmt := topS 40
abbrev N__law_far : List Str := ["_law_pot_here", "_law_many", "_law_found", "_law_turn", "_law_some", "_law_early", "_law_late", "_law_kind"]
theorem sc__law_far : FnScope N__law_far ["_law_pot_here", "_law_many"] (defScope s__law_far) := ⟨rfl, rfl, rfl, by decide +kernel, rfl, by decide +kernel, by decide +kernel⟩

theorem der__law_far {f : Addr} {cdv : Value} {A : Around} {outer : List Env} {s : Shared} {H : Hp} {E : XK}
    (g__law_any : CalG P w K mg base CX0 2 "_law_any" (spAny K))
    (g__law_draw : CalG P w K mg base CX0 1 "_law_draw" spDrawW)
    (n_range : mg "range" = none)
    (n_tuple : mg "tuple" = none)
    (n_min : mg "min" = none)
    (hr : Room 2 (A.deeper (envOfC "_law_far" (defScope s__law_far) s.heap.objs.size f cdv))) (gd : (A.deeper (envOfC "_law_far" (defScope s__law_far) s.heap.objs.size f cdv)).guards = some []) :
    PSs (cxOf CX0 P w K mg base N__law_far "_law_far" (defScope s__law_far) f cdv A outer s H E).nox (defBody s__law_far) (t__law_far K) :=
  (pss_cons (ps_set (i := 2) sc__law_far.nd rfl (by first | exact Or.inl rfl | exact Or.inr rfl) (pe_lst pa_nil))
      (pss_cons (ps_for PassesOwn.never rfl (pi_range1 (by rfl) n_range (pa_cons (pv 1) pa_nil)) (pg_name (i := 3) sc__law_far.nd rfl (by first | exact Or.inl rfl | exact Or.inr rfl))
      (pss_cons (ps_set (i := 4) sc__law_far.nd rfl (by first | exact Or.inl rfl | exact Or.inr rfl) (pe_lst (pa_cons (pe_un un_neg (pe_op op_powW pe_int pe_int)) (pa_cons (pe_op op_powW pe_int pe_int) (pa_cons pe_int (pa_cons (pe_op op_sub (pe_op op_powW pe_int pe_int) (pe_g g__law_draw hr (by decide) gd pass0 (by rfl) (pa_cons (pv 0) (pa_cons (pe_op op_powW pe_int pe_int) pa_nil)))) (pa_cons (pe_op op_sub pe_int (pe_g g__law_draw hr (by decide) gd pass0 (by rfl) (pa_cons (pv 0) (pa_cons (pe_op op_powW pe_int pe_int) pa_nil)))) pa_nil)))))))
      (pss_cons (ps_set (i := 5) sc__law_far.nd rfl (by first | exact Or.inl rfl | exact Or.inr rfl) (pe_g g__law_any hr (by decide) gd pass0 (by rfl) (pa_cons (pv 0) (pa_cons (pv 4) pa_nil))))
      (pss_cons (ps_set (i := 6) sc__law_far.nd rfl (by first | exact Or.inl rfl | exact Or.inr rfl) (pe_g g__law_any hr (by decide) gd pass0 (by rfl) (pa_cons (pv 0) (pa_cons (pe_lst (pa_cons (pv 5) (pa_cons (pe_op op_powW pe_int pe_int) (pa_cons (pe_callB (call_min2 rfl) (by rfl) n_min (by decide +kernel) (pa_cons (pe_op op_powW pe_int pe_int) (pa_cons (pe_op op_addA (pv 5) (pe_g g__law_draw hr (by decide) gd pass0 (by rfl) (pa_cons (pv 0) (pa_cons pe_int pa_nil)))) pa_nil))) pa_nil)))) pa_nil))))
      (pss_cons (ps_set (i := 7) sc__law_far.nd rfl (by first | exact Or.inl rfl | exact Or.inr rfl) (pe_g g__law_any hr (by decide) gd pass0 (by rfl) (pa_cons (pv 0) (pa_cons (pe_lst (pa_cons pe_str (pa_cons pe_str pa_nil))) pa_nil))))
      (pss_one (ps_expr (pe_bm PySem.F.plainAttrs_list PySem.F.slot_list_append PySem.F.type_list_append mt_append (pv 2) (pa_cons (pe_tup (pa_cons (pv 7) (pa_cons (pe_ifExp (pt_cmpR (op_eqA (units65 hr)) (pv 7) pe_str (nomark _)) (pe_op op_sub (pe_op op_powW pe_int pe_int) (pv 3)) (pe_g g__law_any hr (by decide) gd pass0 (by rfl) (pa_cons (pv 0) (pa_cons (pe_lst (pa_cons pe_int (pa_cons (pe_op op_powW pe_int pe_int) pa_nil))) pa_nil)))) (pa_cons (pv 5) (pa_cons (pv 6) pa_nil))))) pa_nil)))))))))
      (pss_one (ps_ret (pe_callTy call_tuple_of (by rfl) n_tuple (by decide +kernel) (pa_cons (pv 2) pa_nil))))))

theorem ok__law_far {f : Addr} {fd : FuncData} (F : Fun K "_law_far" "_law_far" s__law_far f fd)
    (g__law_any : CalG P w K mg base CX0 2 "_law_any" (spAny K))
    (g__law_draw : CalG P w K mg base CX0 1 "_law_draw" spDrawW)
    (n_range : mg "range" = none)
    (n_tuple : mg "tuple" = none)
    (n_min : mg "min" = none) :
    FnG P w K mg base CX0 3 f fd ["_law_pot_here", "_law_many"] spFar :=
  fn_g F sc__law_far (fun vs H Q E h => spFar_arity h) (fun cdv A outer s H vs Q E hr gd0 h => ⟨t__law_far K, PSs.nox (der__law_far g__law_any g__law_draw n_range n_tuple n_min hr gd0), pure__law_far h⟩)

abbrev s__law_log_right : Stmt := topS 41
abbrev N__law_log_right : List Str := ["_law_log", "_law_kept", "_law_page_here"]
theorem sc__law_log_right : FnScope N__law_log_right ["_law_log"] (defScope s__law_log_right) := ⟨rfl, rfl, rfl, by decide +kernel, rfl, by decide +kernel, by decide +kernel⟩

theorem der__law_log_right {f : Addr} {cdv : Value} {A : Around} {outer : List Env} {s : Shared} {H : Hp} {E : XK}
    (g__law_page : CalG P w K mg base CX0 2 "_law_page" spFormat)
    (g_format_log : CalG P w K mg base CX0 2 "format_log" spFormat)
    (g_chart : CalG P w K mg base CX0 1 "chart" spChart)
    (g__law_lines : CalG P w K mg base CX0 2 "_law_lines" spChart)
    (g_parse_log : CalG P w K mg base CX0 7 "parse_log" spParseLog)
    (n_repr : mg "repr" = none)
    (hS : ∃ o, base.get? sysModules = some o)
    (hr : Room 7 (A.deeper (envOfC "_law_log_right" (defScope s__law_log_right) s.heap.objs.size f cdv))) (gd : (A.deeper (envOfC "_law_log_right" (defScope s__law_log_right) s.heap.objs.size f cdv)).guards = some []) :
    PSs (cxOf CX0 P w K mg base N__law_log_right "_law_log_right" (defScope s__law_log_right) f cdv A outer s H E).nox (defBody s__law_log_right) (t58__law_log_right K) :=
  (pss_cons (ps_par (i := 1) (j := 2) (by rfl) sc__law_log_right.nd rfl rfl (by decide) rfl rfl (pa_cons (pe_callB (call_repr gd hr hS) (by rfl) n_repr (by decide +kernel) (pa_cons (pv 0) pa_nil)) (pa_cons (pe_g g__law_page hr (by decide) gd pass0 (by rfl) (pa_cons (pv 0) pa_nil)) pa_nil)) (by rfl))
      (pss_cons (ps_if (PW.pt (pw_or (pt_cmpR (op_neA (units65 hr)) (pe_g g_format_log hr (by decide) gd pass0 (by rfl) (pa_cons (pv 0) pa_nil)) (pv 2) (nomark _)) (pw_or (pt_cmpR (op_neA (units65 hr)) (pe_callB (call_repr gd hr hS) (by rfl) n_repr (by decide +kernel) (pa_cons (pe_g g_parse_log hr (by decide) gd pass0 (by rfl) (pa_cons (pv 2) pa_nil)) pa_nil)) (pv 1) (nomark _)) (pw_or1 (pt_cmpR (op_neA (units65 hr)) (pe_g g_chart hr (by decide) gd pass0 (by rfl) (pa_cons (pv 0) pa_nil)) (pe_g g__law_lines hr (by decide) gd pass0 (by rfl) (pa_cons (pv 0) pa_nil)) (nomark _))))))
      (pss_one (ps_ret pe_bl)) pss_nil)
      (pss_one (ps_ret (pe_cmpR (op_eqA (units65 hr)) (pe_callB (call_repr gd hr hS) (by rfl) n_repr (by decide +kernel) (pa_cons (pv 0) pa_nil)) (pv 1) (nomark _))))))

theorem ok__law_log_right {f : Addr} {fd : FuncData} (F : Fun K "_law_log_right" "_law_log_right" s__law_log_right f fd)
    (g__law_page : CalG P w K mg base CX0 2 "_law_page" spFormat)
    (g_format_log : CalG P w K mg base CX0 2 "format_log" spFormat)
    (g_chart : CalG P w K mg base CX0 1 "chart" spChart)
    (g__law_lines : CalG P w K mg base CX0 2 "_law_lines" spChart)
    (g_parse_log : CalG P w K mg base CX0 7 "parse_log" spParseLog)
    (n_repr : mg "repr" = none)
    (hS : ∃ o, base.get? sysModules = some o) :
    FnG P w K mg base CX0 8 f fd ["_law_log"] spLogRight :=
  fn_g F sc__law_log_right (fun vs H Q E h => spLogRight_arity h) (fun cdv A outer s H vs Q E hr gd0 h => ⟨t58__law_log_right K, PSs.nox (der__law_log_right g__law_page g_format_log g_chart g__law_lines g_parse_log n_repr hS hr gd0), pure58__law_log_right h⟩)

abbrev s_law : Stmt := topS 42
abbrev N_law : List Str := ["_law_script", "_law_k", "_law_pot_here", "_law_some", "_law_log", "_law_one", "_law_other"]
theorem sc_law : FnScope N_law ["_law_script"] (defScope s_law) := ⟨rfl, rfl, rfl, by decide +kernel, rfl, by decide +kernel, by decide +kernel⟩

theorem der_law {f : Addr} {cdv : Value} {A : Around} {outer : List Env} {s : Shared} {H : Hp} {E : XK}
    (g__law_pot : CalG P w K mg base CX0 1 "_law_pot" (spPot K))
    (g__law_wild : CalG P w K mg base CX0 3 "_law_wild" spWild)
    (g__law_far : CalG P w K mg base CX0 3 "_law_far" spFar)
    (g__law_true : CalG P w K mg base CX0 3 "_law_true" spTrue)
    (g__law_log_right : CalG P w K mg base CX0 8 "_law_log_right" spLogRight)
    (g_format_log : CalG P w K mg base CX0 2 "format_log" spFormat)
    (n_range : mg "range" = none)
    (n_max : mg "max" = none)
    (n_min : mg "min" = none)
    (n_all : mg "all" = none)
    (n_len : mg "len" = none)
    (hr : Room 8 (A.deeper (envOfC "law" (defScope s_law) s.heap.objs.size f cdv))) (gd : (A.deeper (envOfC "law" (defScope s_law) s.heap.objs.size f cdv)).guards = some []) :
    PSs (cxOf CX0 P w K mg base N_law "law" (defScope s_law) f cdv A outer s H E).nox (defBody s_law) (t58_law K) :=
  (pss_cons (ps_for PassesOwn.never rfl (pi_range1 (by rfl) n_range (pa_cons (pe_callB (call_max2 rfl) (by rfl) n_max (by decide +kernel) (pa_cons pe_int (pa_cons (pe_callB (call_min2 rfl) (by rfl) n_min (by decide +kernel) (pa_cons pe_int (pa_cons (pe_callB call_len (by rfl) n_len (by decide +kernel) (pa_cons (pv 0) pa_nil)) pa_nil))) pa_nil))) pa_nil)) (pg_name (i := 1) sc_law.nd rfl (by first | exact Or.inl rfl | exact Or.inr rfl))
      (pss_cons (ps_set (i := 2) sc_law.nd rfl (by first | exact Or.inl rfl | exact Or.inr rfl) (pe_g g__law_pot hr (by decide) gd pass0 (by rfl) (pa_cons (pv 0) (pa_cons (pv 1) pa_nil))))
      (pss_cons (ps_set (i := 3) sc_law.nd rfl (by first | exact Or.inl rfl | exact Or.inr rfl) (pe_lst (pa_cons (pe_g g__law_wild hr (by decide) gd pass0 (by rfl) (pa_cons (pv 2) (pa_cons pe_int (pa_cons pe_int pa_nil)))) (pa_cons (pe_g g__law_far hr (by decide) gd pass0 (by rfl) (pa_cons (pv 2) (pa_cons pe_int pa_nil))) (pa_cons (pe_g g__law_true hr (by decide) gd pass0 (by rfl) (pa_cons (pv 2) (pa_cons pe_int (pa_cons pe_int (pa_cons pe_int pa_nil))))) (pa_cons (pe_tup pa_nil) (pa_cons (pe_g g__law_far hr (by decide) gd pass0 (by rfl) (pa_cons (pv 2) (pa_cons pe_int pa_nil))) pa_nil)))))))
      (pss_cons (ps_if (pt_not (pt_val (pe_callB (cr_all rfl) (by rfl) n_all (by decide +kernel) (pa_cons (pe_lc (own := [("_law_log", 4)]) (g := (gName 4)) (tt := tYes) rfl sc_law.nd (pi_seq (pv 3)) (blkOk_by (N := N_law) (sc := defScope s_law) (by decide +kernel)) (fun _ _ _ _ _ => (pg_name (i := 4) sc_law.nd rfl (by first | exact Or.inl rfl | exact Or.inr rfl))) (fun _ _ _ _ _ => pts_nil) (fun _ _ _ _ _ => (pe_g g__law_log_right hr (by decide) gd pass0 (by rfl) (pa_cons (pv 4) pa_nil)))) pa_nil))))
      (pss_one (ps_ret pe_bl)) pss_nil)
      (pss_one (ps_for PassesOwn.never rfl (pi_seq (pv 3)) (pg_name (i := 5) sc_law.nd rfl (by first | exact Or.inl rfl | exact Or.inr rfl))
      (pss_one (ps_for PassesOwn.never rfl (pi_seq (pv 3)) (pg_name (i := 6) sc_law.nd rfl (by first | exact Or.inl rfl | exact Or.inr rfl))
      (pss_one (ps_if (pt_cmpR (op_neA (units65 hr)) (pe_cmpR (op_eqA (units65 hr)) (pe_g g_format_log hr (by decide) gd pass0 (by rfl) (pa_cons (pv 5) pa_nil)) (pe_g g_format_log hr (by decide) gd pass0 (by rfl) (pa_cons (pv 6) pa_nil)) (nomark _)) (pe_cmpR (op_eqA (units65 hr)) (pv 5) (pv 6) (nomark _)) (nomark _))
      (pss_one (ps_ret pe_bl)) pss_nil))))))))))
      (pss_one (ps_ret pe_bl)))

theorem ok_law {f : Addr} {fd : FuncData} (F : Fun K "law" "law" s_law f fd)
    (g__law_pot : CalG P w K mg base CX0 1 "_law_pot" (spPot K))
    (g__law_wild : CalG P w K mg base CX0 3 "_law_wild" spWild)
    (g__law_far : CalG P w K mg base CX0 3 "_law_far" spFar)
    (g__law_true : CalG P w K mg base CX0 3 "_law_true" spTrue)
    (g__law_log_right : CalG P w K mg base CX0 8 "_law_log_right" spLogRight)
    (g_format_log : CalG P w K mg base CX0 2 "format_log" spFormat)
    (n_range : mg "range" = none)
    (n_max : mg "max" = none)
    (n_min : mg "min" = none)
    (n_all : mg "all" = none)
    (n_len : mg "len" = none) :
    FnG P w K mg base CX0 9 f fd ["_law_script"] (spLaw58 K) :=
  fn_g F sc_law (fun vs H Q E h => spLaw58_arity h) (fun cdv A outer s H vs Q E hr gd0 h => ⟨t58_law K, PSs.nox (der_law g__law_pot g__law_wild g__law_far g__law_true g__law_log_right g_format_log n_range n_max n_min n_all n_len hr gd0), pure58_law h⟩)

end
end K01

namespace K01
open PySem PySem.Spec PyProof.Rows L2 LB StX
theorem all_mk {P : Program} {w : World} {K : PySem.W.Frag} {h : Heap} {mg : Str → Option Value} {fa : Addr} (X : K.In h) (Gg : h.Ns mainGlobals mg) (hfa : mg "law" = some (.ref fa))
    {f0 : Addr} {od0 an0 : Option Addr} {sl0 : Array (Option Value)} {oc0 kV0 dc0 pm0 cd0 ct0 : Value}
    (a0 : PySem.W.nsIn K mainGlobals "is_integer" = some (some (.ref f0))) (l0 : K.lookup f0 = some ⟨oc0, od0, .func (PySem.W.fnOf "is_integer" "is_integer" (defArgs s_is_integer) (defBody s_is_integer) (defScope s_is_integer) .none kV0 dc0 pm0 an0 cd0 ct0), sl0⟩) (c0 : PySem.W.codeIn K cd0 "is_integer" = true) (k0 : PySem.W.keepIn K (.ref f0) = true)
    {f1 : Addr} {od1 an1 : Option Addr} {sl1 : Array (Option Value)} {oc1 kV1 dc1 pm1 cd1 ct1 : Value}
    (a1 : PySem.W.nsIn K mainGlobals "is_integer_within" = some (some (.ref f1))) (l1 : K.lookup f1 = some ⟨oc1, od1, .func (PySem.W.fnOf "is_integer_within" "is_integer_within" (defArgs s_is_integer_within) (defBody s_is_integer_within) (defScope s_is_integer_within) .none kV1 dc1 pm1 an1 cd1 ct1), sl1⟩) (c1 : PySem.W.codeIn K cd1 "is_integer_within" = true) (k1 : PySem.W.keepIn K (.ref f1) = true)
    {f2 : Addr} {od2 an2 : Option Addr} {sl2 : Array (Option Value)} {oc2 kV2 dc2 pm2 cd2 ct2 : Value}
    (a2 : PySem.W.nsIn K mainGlobals "_is_stamp" = some (some (.ref f2))) (l2 : K.lookup f2 = some ⟨oc2, od2, .func (PySem.W.fnOf "_is_stamp" "_is_stamp" (defArgs s__is_stamp) (defBody s__is_stamp) (defScope s__is_stamp) .none kV2 dc2 pm2 an2 cd2 ct2), sl2⟩) (c2 : PySem.W.codeIn K cd2 "_is_stamp" = true) (k2 : PySem.W.keepIn K (.ref f2) = true)
    {f3 : Addr} {od3 an3 : Option Addr} {sl3 : Array (Option Value)} {oc3 kV3 dc3 pm3 cd3 ct3 : Value}
    (a3 : PySem.W.nsIn K mainGlobals "are_stamps" = some (some (.ref f3))) (l3 : K.lookup f3 = some ⟨oc3, od3, .func (PySem.W.fnOf "are_stamps" "are_stamps" (defArgs s_are_stamps) (defBody s_are_stamps) (defScope s_are_stamps) .none kV3 dc3 pm3 an3 cd3 ct3), sl3⟩) (c3 : PySem.W.codeIn K cd3 "are_stamps" = true) (k3 : PySem.W.keepIn K (.ref f3) = true)
    {f4 : Addr} {od4 an4 : Option Addr} {sl4 : Array (Option Value)} {oc4 kV4 dc4 pm4 cd4 ct4 : Value}
    (a4 : PySem.W.nsIn K mainGlobals "_fits_kind" = some (some (.ref f4))) (l4 : K.lookup f4 = some ⟨oc4, od4, .func (PySem.W.fnOf "_fits_kind" "_fits_kind" (defArgs s__fits_kind) (defBody s__fits_kind) (defScope s__fits_kind) .none kV4 dc4 pm4 an4 cd4 ct4), sl4⟩) (c4 : PySem.W.codeIn K cd4 "_fits_kind" = true) (k4 : PySem.W.keepIn K (.ref f4) = true)
    {f5 : Addr} {od5 an5 : Option Addr} {sl5 : Array (Option Value)} {oc5 kV5 dc5 pm5 cd5 ct5 : Value}
    (a5 : PySem.W.nsIn K mainGlobals "is_operation" = some (some (.ref f5))) (l5 : K.lookup f5 = some ⟨oc5, od5, .func (PySem.W.fnOf "is_operation" "is_operation" (defArgs s_is_operation) (defBody s_is_operation) (defScope s_is_operation) .none kV5 dc5 pm5 an5 cd5 ct5), sl5⟩) (c5 : PySem.W.codeIn K cd5 "is_operation" = true) (k5 : PySem.W.keepIn K (.ref f5) = true)
    {f6 : Addr} {od6 an6 : Option Addr} {sl6 : Array (Option Value)} {oc6 kV6 dc6 pm6 cd6 ct6 : Value}
    (a6 : PySem.W.nsIn K mainGlobals "is_log" = some (some (.ref f6))) (l6 : K.lookup f6 = some ⟨oc6, od6, .func (PySem.W.fnOf "is_log" "is_log" (defArgs s_is_log) (defBody s_is_log) (defScope s_is_log) .none kV6 dc6 pm6 an6 cd6 ct6), sl6⟩) (c6 : PySem.W.codeIn K cd6 "is_log" = true) (k6 : PySem.W.keepIn K (.ref f6) = true)
    {f7 : Addr} {od7 an7 : Option Addr} {sl7 : Array (Option Value)} {oc7 kV7 dc7 pm7 cd7 ct7 : Value}
    (a7 : PySem.W.nsIn K mainGlobals "parse_integer" = some (some (.ref f7))) (l7 : K.lookup f7 = some ⟨oc7, od7, .func (PySem.W.fnOf "parse_integer" "parse_integer" (defArgs s_parse_integer) (defBody s_parse_integer) (defScope s_parse_integer) .none kV7 dc7 pm7 an7 cd7 ct7), sl7⟩) (c7 : PySem.W.codeIn K cd7 "parse_integer" = true) (k7 : PySem.W.keepIn K (.ref f7) = true)
    {f8 : Addr} {od8 an8 : Option Addr} {sl8 : Array (Option Value)} {oc8 kV8 dc8 pm8 cd8 ct8 : Value}
    (a8 : PySem.W.nsIn K mainGlobals "_spaced" = some (some (.ref f8))) (l8 : K.lookup f8 = some ⟨oc8, od8, .func (PySem.W.fnOf "_spaced" "_spaced" (defArgs s__spaced) (defBody s__spaced) (defScope s__spaced) .none kV8 dc8 pm8 an8 cd8 ct8), sl8⟩) (c8 : PySem.W.codeIn K cd8 "_spaced" = true) (k8 : PySem.W.keepIn K (.ref f8) = true)
    {f9 : Addr} {od9 an9 : Option Addr} {sl9 : Array (Option Value)} {oc9 kV9 dc9 pm9 cd9 ct9 : Value}
    (a9 : PySem.W.nsIn K mainGlobals "format_log" = some (some (.ref f9))) (l9 : K.lookup f9 = some ⟨oc9, od9, .func (PySem.W.fnOf "format_log" "format_log" (defArgs s_format_log) (defBody s_format_log) (defScope s_format_log) .none kV9 dc9 pm9 an9 cd9 ct9), sl9⟩) (c9 : PySem.W.codeIn K cd9 "format_log" = true) (k9 : PySem.W.keepIn K (.ref f9) = true)
    {f10 : Addr} {od10 an10 : Option Addr} {sl10 : Array (Option Value)} {oc10 kV10 dc10 pm10 cd10 ct10 : Value}
    (a10 : PySem.W.nsIn K mainGlobals "chart" = some (some (.ref f10))) (l10 : K.lookup f10 = some ⟨oc10, od10, .func (PySem.W.fnOf "chart" "chart" (defArgs s_chart) (defBody s_chart) (defScope s_chart) .none kV10 dc10 pm10 an10 cd10 ct10), sl10⟩) (c10 : PySem.W.codeIn K cd10 "chart" = true) (k10 : PySem.W.keepIn K (.ref f10) = true)
    {f11 : Addr} {od11 an11 : Option Addr} {sl11 : Array (Option Value)} {oc11 kV11 dc11 pm11 cd11 ct11 : Value}
    (a11 : PySem.W.nsIn K mainGlobals "_parse_operation" = some (some (.ref f11))) (l11 : K.lookup f11 = some ⟨oc11, od11, .func (PySem.W.fnOf "_parse_operation" "_parse_operation" (defArgs s__parse_operation) (defBody s__parse_operation) (defScope s__parse_operation) .none kV11 dc11 pm11 an11 cd11 ct11), sl11⟩) (c11 : PySem.W.codeIn K cd11 "_parse_operation" = true) (k11 : PySem.W.keepIn K (.ref f11) = true)
    {f12 : Addr} {od12 an12 : Option Addr} {sl12 : Array (Option Value)} {oc12 kV12 dc12 pm12 cd12 ct12 : Value}
    (a12 : PySem.W.nsIn K mainGlobals "_parse_operations" = some (some (.ref f12))) (l12 : K.lookup f12 = some ⟨oc12, od12, .func (PySem.W.fnOf "_parse_operations" "_parse_operations" (defArgs s__parse_operations) (defBody s__parse_operations) (defScope s__parse_operations) .none kV12 dc12 pm12 an12 cd12 ct12), sl12⟩) (c12 : PySem.W.codeIn K cd12 "_parse_operations" = true) (k12 : PySem.W.keepIn K (.ref f12) = true)
    {f13 : Addr} {od13 an13 : Option Addr} {sl13 : Array (Option Value)} {oc13 kV13 dc13 pm13 cd13 ct13 : Value}
    (a13 : PySem.W.nsIn K mainGlobals "parse_log" = some (some (.ref f13))) (l13 : K.lookup f13 = some ⟨oc13, od13, .func (PySem.W.fnOf "parse_log" "parse_log" (defArgs s_parse_log) (defBody s_parse_log) (defScope s_parse_log) .none kV13 dc13 pm13 an13 cd13 ct13), sl13⟩) (c13 : PySem.W.codeIn K cd13 "parse_log" = true) (k13 : PySem.W.keepIn K (.ref f13) = true)
    {f14 : Addr} {od14 an14 : Option Addr} {sl14 : Array (Option Value)} {oc14 kV14 dc14 pm14 cd14 ct14 : Value}
    (a14 : PySem.W.nsIn K mainGlobals "_law_draw" = some (some (.ref f14))) (l14 : K.lookup f14 = some ⟨oc14, od14, .func (PySem.W.fnOf "_law_draw" "_law_draw" (defArgs s__law_draw) (defBody s__law_draw) (defScope s__law_draw) .none kV14 dc14 pm14 an14 cd14 ct14), sl14⟩) (c14 : PySem.W.codeIn K cd14 "_law_draw" = true) (k14 : PySem.W.keepIn K (.ref f14) = true)
    {f15 : Addr} {od15 an15 : Option Addr} {sl15 : Array (Option Value)} {oc15 kV15 dc15 pm15 cd15 ct15 : Value}
    (a15 : PySem.W.nsIn K mainGlobals "_law_pot" = some (some (.ref f15))) (l15 : K.lookup f15 = some ⟨oc15, od15, .func (PySem.W.fnOf "_law_pot" "_law_pot" (defArgs s__law_pot) (defBody s__law_pot) (defScope s__law_pot) .none kV15 dc15 pm15 an15 cd15 ct15), sl15⟩) (c15 : PySem.W.codeIn K cd15 "_law_pot" = true) (k15 : PySem.W.keepIn K (.ref f15) = true)
    {f16 : Addr} {od16 an16 : Option Addr} {sl16 : Array (Option Value)} {oc16 kV16 dc16 pm16 cd16 ct16 : Value}
    (a16 : PySem.W.nsIn K mainGlobals "_law_any" = some (some (.ref f16))) (l16 : K.lookup f16 = some ⟨oc16, od16, .func (PySem.W.fnOf "_law_any" "_law_any" (defArgs s__law_any) (defBody s__law_any) (defScope s__law_any) .none kV16 dc16 pm16 an16 cd16 ct16), sl16⟩) (c16 : PySem.W.codeIn K cd16 "_law_any" = true) (k16 : PySem.W.keepIn K (.ref f16) = true)
    {f17 : Addr} {od17 an17 : Option Addr} {sl17 : Array (Option Value)} {oc17 kV17 dc17 pm17 cd17 ct17 : Value}
    (a17 : PySem.W.nsIn K mainGlobals "_law_mixed" = some (some (.ref f17))) (l17 : K.lookup f17 = some ⟨oc17, od17, .func (PySem.W.fnOf "_law_mixed" "_law_mixed" (defArgs s__law_mixed) (defBody s__law_mixed) (defScope s__law_mixed) .none kV17 dc17 pm17 an17 cd17 ct17), sl17⟩) (c17 : PySem.W.codeIn K cd17 "_law_mixed" = true) (k17 : PySem.W.keepIn K (.ref f17) = true)
    {f18 : Addr} {od18 an18 : Option Addr} {sl18 : Array (Option Value)} {oc18 kV18 dc18 pm18 cd18 ct18 : Value}
    (a18 : PySem.W.nsIn K mainGlobals "_law_wild" = some (some (.ref f18))) (l18 : K.lookup f18 = some ⟨oc18, od18, .func (PySem.W.fnOf "_law_wild" "_law_wild" (defArgs s__law_wild) (defBody s__law_wild) (defScope s__law_wild) .none kV18 dc18 pm18 an18 cd18 ct18), sl18⟩) (c18 : PySem.W.codeIn K cd18 "_law_wild" = true) (k18 : PySem.W.keepIn K (.ref f18) = true)
    {f19 : Addr} {od19 an19 : Option Addr} {sl19 : Array (Option Value)} {oc19 kV19 dc19 pm19 cd19 ct19 : Value}
    (a19 : PySem.W.nsIn K mainGlobals "_law_true" = some (some (.ref f19))) (l19 : K.lookup f19 = some ⟨oc19, od19, .func (PySem.W.fnOf "_law_true" "_law_true" (defArgs s__law_true) (defBody s__law_true) (defScope s__law_true) .none kV19 dc19 pm19 an19 cd19 ct19), sl19⟩) (c19 : PySem.W.codeIn K cd19 "_law_true" = true) (k19 : PySem.W.keepIn K (.ref f19) = true)
    {f20 : Addr} {od20 an20 : Option Addr} {sl20 : Array (Option Value)} {oc20 kV20 dc20 pm20 cd20 ct20 : Value}
    (a20 : PySem.W.nsIn K mainGlobals "_law_row" = some (some (.ref f20))) (l20 : K.lookup f20 = some ⟨oc20, od20, .func (PySem.W.fnOf "_law_row" "_law_row" (defArgs s__law_row) (defBody s__law_row) (defScope s__law_row) .none kV20 dc20 pm20 an20 cd20 ct20), sl20⟩) (c20 : PySem.W.codeIn K cd20 "_law_row" = true) (k20 : PySem.W.keepIn K (.ref f20) = true)
    {f21 : Addr} {od21 an21 : Option Addr} {sl21 : Array (Option Value)} {oc21 kV21 dc21 pm21 cd21 ct21 : Value}
    (a21 : PySem.W.nsIn K mainGlobals "_law_page" = some (some (.ref f21))) (l21 : K.lookup f21 = some ⟨oc21, od21, .func (PySem.W.fnOf "_law_page" "_law_page" (defArgs s__law_page) (defBody s__law_page) (defScope s__law_page) .none kV21 dc21 pm21 an21 cd21 ct21), sl21⟩) (c21 : PySem.W.codeIn K cd21 "_law_page" = true) (k21 : PySem.W.keepIn K (.ref f21) = true)
    {f22 : Addr} {od22 an22 : Option Addr} {sl22 : Array (Option Value)} {oc22 kV22 dc22 pm22 cd22 ct22 : Value}
    (a22 : PySem.W.nsIn K mainGlobals "_law_filled" = some (some (.ref f22))) (l22 : K.lookup f22 = some ⟨oc22, od22, .func (PySem.W.fnOf "_law_filled" "_law_filled" (defArgs s__law_filled) (defBody s__law_filled) (defScope s__law_filled) .none kV22 dc22 pm22 an22 cd22 ct22), sl22⟩) (c22 : PySem.W.codeIn K cd22 "_law_filled" = true) (k22 : PySem.W.keepIn K (.ref f22) = true)
    {f23 : Addr} {od23 an23 : Option Addr} {sl23 : Array (Option Value)} {oc23 kV23 dc23 pm23 cd23 ct23 : Value}
    (a23 : PySem.W.nsIn K mainGlobals "_law_lines" = some (some (.ref f23))) (l23 : K.lookup f23 = some ⟨oc23, od23, .func (PySem.W.fnOf "_law_lines" "_law_lines" (defArgs s__law_lines) (defBody s__law_lines) (defScope s__law_lines) .none kV23 dc23 pm23 an23 cd23 ct23), sl23⟩) (c23 : PySem.W.codeIn K cd23 "_law_lines" = true) (k23 : PySem.W.keepIn K (.ref f23) = true)
    {f24 : Addr} {od24 an24 : Option Addr} {sl24 : Array (Option Value)} {oc24 kV24 dc24 pm24 cd24 ct24 : Value}
    (a24 : PySem.W.nsIn K mainGlobals "_law_far" = some (some (.ref f24))) (l24 : K.lookup f24 = some ⟨oc24, od24, .func (PySem.W.fnOf "_law_far" "_law_far" (defArgs s__law_far) (defBody s__law_far) (defScope s__law_far) .none kV24 dc24 pm24 an24 cd24 ct24), sl24⟩) (c24 : PySem.W.codeIn K cd24 "_law_far" = true) (k24 : PySem.W.keepIn K (.ref f24) = true)
    {f25 : Addr} {od25 an25 : Option Addr} {sl25 : Array (Option Value)} {oc25 kV25 dc25 pm25 cd25 ct25 : Value}
    (a25 : PySem.W.nsIn K mainGlobals "_law_log_right" = some (some (.ref f25))) (l25 : K.lookup f25 = some ⟨oc25, od25, .func (PySem.W.fnOf "_law_log_right" "_law_log_right" (defArgs s__law_log_right) (defBody s__law_log_right) (defScope s__law_log_right) .none kV25 dc25 pm25 an25 cd25 ct25), sl25⟩) (c25 : PySem.W.codeIn K cd25 "_law_log_right" = true) (k25 : PySem.W.keepIn K (.ref f25) = true)
    {f26 : Addr} {od26 an26 : Option Addr} {sl26 : Array (Option Value)} {oc26 kV26 dc26 pm26 cd26 ct26 : Value}
    (a26 : PySem.W.nsIn K mainGlobals "law" = some (some (.ref f26))) (l26 : K.lookup f26 = some ⟨oc26, od26, .func (PySem.W.fnOf "law" "law" (defArgs s_law) (defBody s_law) (defScope s_law) .none kV26 dc26 pm26 an26 cd26 ct26), sl26⟩) (c26 : PySem.W.codeIn K cd26 "law" = true) (k26 : PySem.W.keepIn K (.ref f26) = true)
    (z_isinstance : PySem.W.nsIn K mainGlobals "isinstance" = some none)
    (z_int : PySem.W.nsIn K mainGlobals "int" = some none)
    (z_bool : PySem.W.nsIn K mainGlobals "bool" = some none)
    (z_tuple : PySem.W.nsIn K mainGlobals "tuple" = some none)
    (z_len : PySem.W.nsIn K mainGlobals "len" = some none)
    (z_all : PySem.W.nsIn K mainGlobals "all" = some none)
    (z_set : PySem.W.nsIn K mainGlobals "set" = some none)
    (z_str : PySem.W.nsIn K mainGlobals "str" = some none)
    (z_enumerate : PySem.W.nsIn K mainGlobals "enumerate" = some none)
    (z_abs : PySem.W.nsIn K mainGlobals "abs" = some none)
    (z_list : PySem.W.nsIn K mainGlobals "list" = some none)
    (z_range : PySem.W.nsIn K mainGlobals "range" = some none)
    (z_min : PySem.W.nsIn K mainGlobals "min" = some none)
    (z_max : PySem.W.nsIn K mainGlobals "max" = some none)
    (z_repr : PySem.W.nsIn K mainGlobals "repr" = some none)
    {t_GREATEST_STAMP : Tok} (y_GREATEST_STAMP : PySem.W.nsIn K mainGlobals "GREATEST_STAMP" = some (some (.int 1000000000000000 t_GREATEST_STAMP)))
    {t_WRITE : Tok} (y_WRITE : PySem.W.nsIn K mainGlobals "WRITE" = some (some (.str "write" t_WRITE)))
    {t_GREATEST_VALUE : Tok} (y_GREATEST_VALUE : PySem.W.nsIn K mainGlobals "GREATEST_VALUE" = some (some (.int 1000000000 t_GREATEST_VALUE)))
    {t_READ : Tok} (y_READ : PySem.W.nsIn K mainGlobals "READ" = some (some (.str "read" t_READ)))
    {t_MOST_OPERATIONS : Tok} (y_MOST_OPERATIONS : PySem.W.nsIn K mainGlobals "MOST_OPERATIONS" = some (some (.int 200 t_MOST_OPERATIONS)))
    {t_VALUE : Tok} (y_VALUE : PySem.W.nsIn K mainGlobals "VALUE" = some (some (.int 1 t_VALUE)))
    {t_KIND : Tok} (y_KIND : PySem.W.nsIn K mainGlobals "KIND" = some (some (.int 0 t_KIND)))
    {t_MOST_DIGITS : Tok} (y_MOST_DIGITS : PySem.W.nsIn K mainGlobals "MOST_DIGITS" = some (some (.int 20 t_MOST_DIGITS)))
    {t_NOTHING : Tok} (y_NOTHING : PySem.W.nsIn K mainGlobals "NOTHING" = some (some (.str "-" t_NOTHING))) :
    ∃ fd : FuncData, (∀ (s : Shared) (u : Value), BindsTo s fd ⟨[u], []⟩ [("_law_script", u)]) ∧ ∀ base : Heap, K.In base → base.Ns mainGlobals mg → (∃ o, base.get? sysModules = some o) → FnG P w K mg base CX0 9 fa fd ["_law_script"] (spLaw K) := by
  have e := hfa.symm.trans (PySem.W.mg_of X Gg a26)
  cases e
  refine ⟨PySem.W.fnOf "law" "law" (defArgs s_law) (defBody s_law) (defScope s_law) .none kV26 dc26 pm26 an26 cd26 ct26, fun s v => .of_eq rfl, fun base _ _ hS => ?_⟩
  have n_isinstance := PySem.W.mg_none_of X Gg z_isinstance
  have n_int := PySem.W.mg_none_of X Gg z_int
  have n_bool := PySem.W.mg_none_of X Gg z_bool
  have n_tuple := PySem.W.mg_none_of X Gg z_tuple
  have n_len := PySem.W.mg_none_of X Gg z_len
  have n_all := PySem.W.mg_none_of X Gg z_all
  have n_set := PySem.W.mg_none_of X Gg z_set
  have n_str := PySem.W.mg_none_of X Gg z_str
  have n_enumerate := PySem.W.mg_none_of X Gg z_enumerate
  have n_abs := PySem.W.mg_none_of X Gg z_abs
  have n_list := PySem.W.mg_none_of X Gg z_list
  have n_range := PySem.W.mg_none_of X Gg z_range
  have n_min := PySem.W.mg_none_of X Gg z_min
  have n_max := PySem.W.mg_none_of X Gg z_max
  have n_repr := PySem.W.mg_none_of X Gg z_repr
  have c_GREATEST_STAMP : ∃ u, mg "GREATEST_STAMP" = some u ∧ RelV (V.int 1000000000000000) u := ⟨_, PySem.W.mg_of X Gg y_GREATEST_STAMP, t_GREATEST_STAMP, rfl⟩
  have c_WRITE : ∃ u, mg "WRITE" = some u ∧ RelV (V.str "write") u := ⟨_, PySem.W.mg_of X Gg y_WRITE, t_WRITE, rfl⟩
  have c_GREATEST_VALUE : ∃ u, mg "GREATEST_VALUE" = some u ∧ RelV (V.int 1000000000) u := ⟨_, PySem.W.mg_of X Gg y_GREATEST_VALUE, t_GREATEST_VALUE, rfl⟩
  have c_READ : ∃ u, mg "READ" = some u ∧ RelV (V.str "read") u := ⟨_, PySem.W.mg_of X Gg y_READ, t_READ, rfl⟩
  have c_MOST_OPERATIONS : ∃ u, mg "MOST_OPERATIONS" = some u ∧ RelV (V.int 200) u := ⟨_, PySem.W.mg_of X Gg y_MOST_OPERATIONS, t_MOST_OPERATIONS, rfl⟩
  have c_VALUE : ∃ u, mg "VALUE" = some u ∧ RelV (V.int 1) u := ⟨_, PySem.W.mg_of X Gg y_VALUE, t_VALUE, rfl⟩
  have c_KIND : ∃ u, mg "KIND" = some u ∧ RelV (V.int 0) u := ⟨_, PySem.W.mg_of X Gg y_KIND, t_KIND, rfl⟩
  have c_MOST_DIGITS : ∃ u, mg "MOST_DIGITS" = some u ∧ RelV (V.int 20) u := ⟨_, PySem.W.mg_of X Gg y_MOST_DIGITS, t_MOST_DIGITS, rfl⟩
  have c_NOTHING : ∃ u, mg "NOTHING" = some u ∧ RelV (V.str "-") u := ⟨_, PySem.W.mg_of X Gg y_NOTHING, t_NOTHING, rfl⟩
  have F0 := fun_mk (st := s_is_integer) l0 c0 k0
  have b0 := bindsG (ps := ["value"]) F0 fun _ _ _ _ _ _ us hl => match us, hl with | [_], _ => rfl
  have o0 := ok_is_integer (P := P) (w := w) (mg := mg) (base := base) F0 n_isinstance n_int n_bool
  have g_is_integer : CalG P w K mg base CX0 1 "is_integer" spIsInt := ⟨f0, _, ["value"], o0, PySem.W.mg_of X Gg a0, k0, b0⟩
  have F1 := fun_mk (st := s_is_integer_within) l1 c1 k1
  have b1 := bindsG (ps := ["value", "least", "greatest"]) F1 fun _ _ _ _ _ _ us hl => match us, hl with | [_, _, _], _ => rfl
  have o1 := ok_is_integer_within (P := P) (w := w) (mg := mg) (base := base) F1 g_is_integer
  have g_is_integer_within : CalG P w K mg base CX0 2 "is_integer_within" spWithin := ⟨f1, _, ["value", "least", "greatest"], o1, PySem.W.mg_of X Gg a1, k1, b1⟩
  have F2 := fun_mk (st := s__is_stamp) l2 c2 k2
  have b2 := bindsG (ps := ["value"]) F2 fun _ _ _ _ _ _ us hl => match us, hl with | [_], _ => rfl
  have o2 := ok__is_stamp (P := P) (w := w) (mg := mg) (base := base) F2 g_is_integer_within c_GREATEST_STAMP
  have g__is_stamp : CalG P w K mg base CX0 3 "_is_stamp" spStamp := ⟨f2, _, ["value"], o2, PySem.W.mg_of X Gg a2, k2, b2⟩
  have F3 := fun_mk (st := s_are_stamps) l3 c3 k3
  have b3 := bindsG (ps := ["begin", "end"]) F3 fun _ _ _ _ _ _ us hl => match us, hl with | [_, _], _ => rfl
  have o3 := ok_are_stamps (P := P) (w := w) (mg := mg) (base := base) F3 g__is_stamp
  have g_are_stamps : CalG P w K mg base CX0 4 "are_stamps" spStamps := ⟨f3, _, ["begin", "end"], o3, PySem.W.mg_of X Gg a3, k3, b3⟩
  have F4 := fun_mk (st := s__fits_kind) l4 c4 k4
  have b4 := bindsG (ps := ["kind", "held"]) F4 fun _ _ _ _ _ _ us hl => match us, hl with | [_, _], _ => rfl
  have o4 := ok__fits_kind (P := P) (w := w) (mg := mg) (base := base) F4 g_is_integer_within c_WRITE c_GREATEST_VALUE c_READ
  have g__fits_kind : CalG P w K mg base CX0 3 "_fits_kind" spFits := ⟨f4, _, ["kind", "held"], o4, PySem.W.mg_of X Gg a4, k4, b4⟩
  have F5 := fun_mk (st := s_is_operation) l5 c5 k5
  have b5 := bindsG (ps := ["value"]) F5 fun _ _ _ _ _ _ us hl => match us, hl with | [_], _ => rfl
  have o5 := ok_is_operation (P := P) (w := w) (mg := mg) (base := base) F5 g__fits_kind g_are_stamps n_isinstance n_tuple n_len
  have g_is_operation : CalG P w K mg base CX0 5 "is_operation" spIsOp := ⟨f5, _, ["value"], o5, PySem.W.mg_of X Gg a5, k5, b5⟩
  have F6 := fun_mk (st := s_is_log) l6 c6 k6
  have b6 := bindsG (ps := ["value"]) F6 fun _ _ _ _ _ _ us hl => match us, hl with | [_], _ => rfl
  have o6 := ok_is_log (P := P) (w := w) (mg := mg) (base := base) F6 g_is_operation n_all n_len n_isinstance n_tuple n_set c_MOST_OPERATIONS c_VALUE c_WRITE c_KIND
  have g_is_log : CalG P w K mg base CX0 6 "is_log" spIsLog := ⟨f6, _, ["value"], o6, PySem.W.mg_of X Gg a6, k6, b6⟩
  have F7 := fun_mk (st := s_parse_integer) l7 c7 k7
  have b7 := bindsG (ps := ["text"]) F7 fun _ _ _ _ _ _ us hl => match us, hl with | [_], _ => rfl
  have o7 := ok_parse_integer (P := P) (w := w) (mg := mg) (base := base) F7 n_int n_all n_len n_str c_MOST_DIGITS
  have g_parse_integer : CalG P w K mg base CX0 1 "parse_integer" spParseInt := ⟨f7, _, ["text"], o7, PySem.W.mg_of X Gg a7, k7, b7⟩
  have F8 := fun_mk (st := s__spaced) l8 c8 k8
  have b8 := bindsG (ps := ["parts"]) F8 fun _ _ _ _ _ _ us hl => match us, hl with | [_], _ => rfl
  have o8 := ok__spaced (P := P) (w := w) (mg := mg) (base := base) F8 n_str
  have g__spaced : CalG P w K mg base CX0 1 "_spaced" spSpaced := ⟨f8, _, ["parts"], o8, PySem.W.mg_of X Gg a8, k8, b8⟩
  have F9 := fun_mk (st := s_format_log) l9 c9 k9
  have b9 := bindsG (ps := ["log"]) F9 fun _ _ _ _ _ _ us hl => match us, hl with | [_], _ => rfl
  have o9 := ok_format_log (P := P) (w := w) (mg := mg) (base := base) F9 g__spaced n_len c_NOTHING
  have g_format_log : CalG P w K mg base CX0 2 "format_log" spFormat := ⟨f9, _, ["log"], o9, PySem.W.mg_of X Gg a9, k9, b9⟩
  have F10 := fun_mk (st := s_chart) l10 c10 k10
  have b10 := bindsG (ps := ["log"]) F10 fun _ _ _ _ _ _ us hl => match us, hl with | [_], _ => rfl
  have o10 := ok_chart (P := P) (w := w) (mg := mg) (base := base) F10 n_enumerate
  have g_chart : CalG P w K mg base CX0 1 "chart" spChart := ⟨f10, _, ["log"], o10, PySem.W.mg_of X Gg a10, k10, b10⟩
  have F11 := fun_mk (st := s__parse_operation) l11 c11 k11
  have b11 := bindsG (ps := ["line"]) F11 fun _ _ _ _ _ _ us hl => match us, hl with | [_], _ => rfl
  have o11 := ok__parse_operation (P := P) (w := w) (mg := mg) (base := base) F11 g_parse_integer
  have g__parse_operation : CalG P w K mg base CX0 2 "_parse_operation" spParseOp := ⟨f11, _, ["line"], o11, PySem.W.mg_of X Gg a11, k11, b11⟩
  have F12 := fun_mk (st := s__parse_operations) l12 c12 k12
  have b12 := bindsG (ps := ["text"]) F12 fun _ _ _ _ _ _ us hl => match us, hl with | [_], _ => rfl
  have o12 := ok__parse_operations (P := P) (w := w) (mg := mg) (base := base) F12 g__parse_operation n_tuple c_NOTHING
  have g__parse_operations : CalG P w K mg base CX0 3 "_parse_operations" spParseOps := ⟨f12, _, ["text"], o12, PySem.W.mg_of X Gg a12, k12, b12⟩
  have F13 := fun_mk (st := s_parse_log) l13 c13 k13
  have b13 := bindsG (ps := ["text"]) F13 fun _ _ _ _ _ _ us hl => match us, hl with | [_], _ => rfl
  have o13 := ok_parse_log (P := P) (w := w) (mg := mg) (base := base) F13 g__parse_operations g_is_log n_isinstance n_str
  have g_parse_log : CalG P w K mg base CX0 7 "parse_log" spParseLog := ⟨f13, _, ["text"], o13, PySem.W.mg_of X Gg a13, k13, b13⟩
  have F14 := fun_mk (st := s__law_draw) l14 c14 k14
  have b14 := bindsG (ps := ["_law_pot_here", "_law_many"]) F14 fun _ _ _ _ _ _ us hl => match us, hl with | [_, _], _ => rfl
  have o14 := ok__law_draw (P := P) (w := w) (mg := mg) (base := base) F14 
  have gW__law_draw : CalG P w K mg base CX0 1 "_law_draw" spDrawW := ⟨f14, _, ["_law_pot_here", "_law_many"], o14, PySem.W.mg_of X Gg a14, k14, b14⟩
  have g__law_draw : CalG P w K mg base CX0 1 "_law_draw" spDraw := ⟨f14, _, ["_law_pot_here", "_law_many"], fng_draw o14, PySem.W.mg_of X Gg a14, k14, b14⟩
  have F15 := fun_mk (st := s__law_pot) l15 c15 k15
  have b15 := bindsG (ps := ["_law_script", "_law_k"]) F15 fun _ _ _ _ _ _ us hl => match us, hl with | [_, _], _ => rfl
  have o15 := ok__law_pot (P := P) (w := w) (mg := mg) (base := base) F15 n_len n_int n_abs
  have g__law_pot : CalG P w K mg base CX0 1 "_law_pot" (spPot K) := ⟨f15, _, ["_law_script", "_law_k"], o15, PySem.W.mg_of X Gg a15, k15, b15⟩
  have F16 := fun_mk (st := s__law_any) l16 c16 k16
  have b16 := bindsG (ps := ["_law_pot_here", "_law_items"]) F16 fun _ _ _ _ _ _ us hl => match us, hl with | [_, _], _ => rfl
  have o16 := ok__law_any (P := P) (w := w) (mg := mg) (base := base) F16 g__law_draw n_len
  have g__law_any : CalG P w K mg base CX0 2 "_law_any" (spAny K) := ⟨f16, _, ["_law_pot_here", "_law_items"], o16, PySem.W.mg_of X Gg a16, k16, b16⟩
  have F17 := fun_mk (st := s__law_mixed) l17 c17 k17
  have b17 := bindsG (ps := ["_law_pot_here", "_law_items"]) F17 fun _ _ _ _ _ _ us hl => match us, hl with | [_, _], _ => rfl
  have o17 := ok__law_mixed (P := P) (w := w) (mg := mg) (base := base) F17 g__law_draw n_list n_len
  have g__law_mixed : CalG P w K mg base CX0 2 "_law_mixed" (spMixed K) := ⟨f17, _, ["_law_pot_here", "_law_items"], o17, PySem.W.mg_of X Gg a17, k17, b17⟩
  have F18 := fun_mk (st := s__law_wild) l18 c18 k18
  have b18 := bindsG (ps := ["_law_pot_here", "_law_most", "_law_room"]) F18 fun _ _ _ _ _ _ us hl => match us, hl with | [_, _, _], _ => rfl
  have o18 := ok__law_wild (P := P) (w := w) (mg := mg) (base := base) F18 g__law_draw g__law_mixed g__law_any n_range n_tuple
  have g__law_wild : CalG P w K mg base CX0 3 "_law_wild" spWild := ⟨f18, _, ["_law_pot_here", "_law_most", "_law_room"], o18, PySem.W.mg_of X Gg a18, k18, b18⟩
  have F19 := fun_mk (st := s__law_true) l19 c19 k19
  have b19 := bindsG (ps := ["_law_pot_here", "_law_many", "_law_off", "_law_step"]) F19 fun _ _ _ _ _ _ us hl => match us, hl with | [_, _, _, _], _ => rfl
  have o19 := ok__law_true (P := P) (w := w) (mg := mg) (base := base) F19 g__law_mixed g__law_any g__law_draw n_range n_tuple n_list n_min n_max
  have g__law_true : CalG P w K mg base CX0 3 "_law_true" spTrue := ⟨f19, _, ["_law_pot_here", "_law_many", "_law_off", "_law_step"], o19, PySem.W.mg_of X Gg a19, k19, b19⟩
  have F20 := fun_mk (st := s__law_row) l20 c20 k20
  have b20 := bindsG (ps := ["_law_operation"]) F20 fun _ _ _ _ _ _ us hl => match us, hl with | [_], _ => rfl
  have o20 := ok__law_row (P := P) (w := w) (mg := mg) (base := base) F20 n_str
  have g__law_row : CalG P w K mg base CX0 1 "_law_row" spSpaced := ⟨f20, _, ["_law_operation"], o20, PySem.W.mg_of X Gg a20, k20, b20⟩
  have F21 := fun_mk (st := s__law_page) l21 c21 k21
  have b21 := bindsG (ps := ["_law_log"]) F21 fun _ _ _ _ _ _ us hl => match us, hl with | [_], _ => rfl
  have o21 := ok__law_page (P := P) (w := w) (mg := mg) (base := base) F21 g__law_row
  have g__law_page : CalG P w K mg base CX0 2 "_law_page" spFormat := ⟨f21, _, ["_law_log"], o21, PySem.W.mg_of X Gg a21, k21, b21⟩
  have F22 := fun_mk (st := s__law_filled) l22 c22 k22
  have b22 := bindsG (ps := ["_law_word", "_law_wide", "_law_is_left"]) F22 fun _ _ _ _ _ _ us hl => match us, hl with | [_, _, _], _ => rfl
  have o22 := ok__law_filled (P := P) (w := w) (mg := mg) (base := base) F22 n_len
  have g__law_filled : CalG P w K mg base CX0 1 "_law_filled" spFilled := ⟨f22, _, ["_law_word", "_law_wide", "_law_is_left"], o22, PySem.W.mg_of X Gg a22, k22, b22⟩
  have F23 := fun_mk (st := s__law_lines) l23 c23 k23
  have b23 := bindsG (ps := ["_law_log"]) F23 fun _ _ _ _ _ _ us hl => match us, hl with | [_], _ => rfl
  have o23 := ok__law_lines (P := P) (w := w) (mg := mg) (base := base) F23 g__law_filled n_enumerate n_str
  have g__law_lines : CalG P w K mg base CX0 2 "_law_lines" spChart := ⟨f23, _, ["_law_log"], o23, PySem.W.mg_of X Gg a23, k23, b23⟩
  have F24 := fun_mk (st := s__law_far) l24 c24 k24
  have b24 := bindsG (ps := ["_law_pot_here", "_law_many"]) F24 fun _ _ _ _ _ _ us hl => match us, hl with | [_, _], _ => rfl
  have o24 := ok__law_far (P := P) (w := w) (mg := mg) (base := base) F24 g__law_any gW__law_draw n_range n_tuple n_min
  have g__law_far : CalG P w K mg base CX0 3 "_law_far" spFar := ⟨f24, _, ["_law_pot_here", "_law_many"], o24, PySem.W.mg_of X Gg a24, k24, b24⟩
  have F25 := fun_mk (st := s__law_log_right) l25 c25 k25
  have b25 := bindsG (ps := ["_law_log"]) F25 fun _ _ _ _ _ _ us hl => match us, hl with | [_], _ => rfl
  have o25 := ok__law_log_right (P := P) (w := w) (mg := mg) (base := base) F25 g__law_page g_format_log g_chart g__law_lines g_parse_log n_repr hS
  have g__law_log_right : CalG P w K mg base CX0 8 "_law_log_right" spLogRight := ⟨f25, _, ["_law_log"], o25, PySem.W.mg_of X Gg a25, k25, b25⟩
  have F26 := fun_mk (st := s_law) l26 c26 k26
  have b26 := bindsG (ps := ["_law_script"]) F26 fun _ _ _ _ _ _ us hl => match us, hl with | [_], _ => rfl
  have o26 := ok_law (P := P) (w := w) (mg := mg) (base := base) F26 g__law_pot g__law_wild g__law_far g__law_true g__law_log_right g_format_log n_range n_max n_min n_all n_len
  exact o26
end K01
open PySem PySem.W PyProof.Rows
set_option maxHeartbeats 0 in
theorem PySem.Challenge.cw_clockslack_k58_whole_logs_written_and_re_holds : PySem.Challenge.rw_clockslack_k58_whole_logs_written_and_re.Holds := by
  w_on; o_law; k_head; (case hw => w_witness2)
  k_fill
  refine LB.walk_g (l := PySem.Challenge.rw_clockslack_k58_whole_logs_written_and_re) (n := 63) (k := 9) (x := "_law_script") (sp := fun K => LB.spLaw K) rfl (by decide) rfl (by rfl) ⟨rfl, by decide, by decide⟩ (fun w h Y => PySem.W.kIn_of Y) ?F (fun K H a ns hl _ hS => ⟨a, ns, rfl, hS, hl, fun _ => rfl⟩)
  case F =>
    intro w mg fa h KX Gg hmg
    refine' K01.all_mk KX Gg hmg ?a0 ?l0 ?c0 ?k0 ?a1 ?l1 ?c1 ?k1 ?a2 ?l2 ?c2 ?k2 ?a3 ?l3 ?c3 ?k3 ?a4 ?l4 ?c4 ?k4 ?a5 ?l5 ?c5 ?k5 ?a6 ?l6 ?c6 ?k6 ?a7 ?l7 ?c7 ?k7 ?a8 ?l8 ?c8 ?k8 ?a9 ?l9 ?c9 ?k9 ?a10 ?l10 ?c10 ?k10 ?a11 ?l11 ?c11 ?k11 ?a12 ?l12 ?c12 ?k12 ?a13 ?l13 ?c13 ?k13 ?a14 ?l14 ?c14 ?k14 ?a15 ?l15 ?c15 ?k15 ?a16 ?l16 ?c16 ?k16 ?a17 ?l17 ?c17 ?k17 ?a18 ?l18 ?c18 ?k18 ?a19 ?l19 ?c19 ?k19 ?a20 ?l20 ?c20 ?k20 ?a21 ?l21 ?c21 ?k21 ?a22 ?l22 ?c22 ?k22 ?a23 ?l23 ?c23 ?k23 ?a24 ?l24 ?c24 ?k24 ?a25 ?l25 ?c25 ?k25 ?a26 ?l26 ?c26 ?k26 ?z_isinstance ?z_int ?z_bool ?z_tuple ?z_len ?z_all ?z_set ?z_str ?z_enumerate ?z_abs ?z_list ?z_range ?z_min ?z_max ?z_repr ?y_GREATEST_STAMP ?y_WRITE ?y_GREATEST_VALUE ?y_READ ?y_MOST_OPERATIONS ?y_VALUE ?y_KIND ?y_MOST_DIGITS ?y_NOTHING
    (case a0 => k_is)
    (case l0 => k_is)
    (case c0 => k_is)
    (case k0 => k_is)
    (case a1 => k_is)
    (case l1 => k_is)
    (case c1 => k_is)
    (case k1 => k_is)
    (case a2 => k_is)
    (case l2 => k_is)
    (case c2 => k_is)
    (case k2 => k_is)
    (case a3 => k_is)
    (case l3 => k_is)
    (case c3 => k_is)
    (case k3 => k_is)
    (case a4 => k_is)
    (case l4 => k_is)
    (case c4 => k_is)
    (case k4 => k_is)
    (case a5 => k_is)
    (case l5 => k_is)
    (case c5 => k_is)
    (case k5 => k_is)
    (case a6 => k_is)
    (case l6 => k_is)
    (case c6 => k_is)
    (case k6 => k_is)
    (case a7 => k_is)
    (case l7 => k_is)
    (case c7 => k_is)
    (case k7 => k_is)
    (case a8 => k_is)
    (case l8 => k_is)
    (case c8 => k_is)
    (case k8 => k_is)
    (case a9 => k_is)
    (case l9 => k_is)
    (case c9 => k_is)
    (case k9 => k_is)
    (case a10 => k_is)
    (case l10 => k_is)
    (case c10 => k_is)
    (case k10 => k_is)
    (case a11 => k_is)
    (case l11 => k_is)
    (case c11 => k_is)
    (case k11 => k_is)
    (case a12 => k_is)
    (case l12 => k_is)
    (case c12 => k_is)
    (case k12 => k_is)
    (case a13 => k_is)
    (case l13 => k_is)
    (case c13 => k_is)
    (case k13 => k_is)
    (case a14 => k_is)
    (case l14 => k_is)
    (case c14 => k_is)
    (case k14 => k_is)
    (case a15 => k_is)
    (case l15 => k_is)
    (case c15 => k_is)
    (case k15 => k_is)
    (case a16 => k_is)
    (case l16 => k_is)
    (case c16 => k_is)
    (case k16 => k_is)
    (case a17 => k_is)
    (case l17 => k_is)
    (case c17 => k_is)
    (case k17 => k_is)
    (case a18 => k_is)
    (case l18 => k_is)
    (case c18 => k_is)
    (case k18 => k_is)
    (case a19 => k_is)
    (case l19 => k_is)
    (case c19 => k_is)
    (case k19 => k_is)
    (case a20 => k_is)
    (case l20 => k_is)
    (case c20 => k_is)
    (case k20 => k_is)
    (case a21 => k_is)
    (case l21 => k_is)
    (case c21 => k_is)
    (case k21 => k_is)
    (case a22 => k_is)
    (case l22 => k_is)
    (case c22 => k_is)
    (case k22 => k_is)
    (case a23 => k_is)
    (case l23 => k_is)
    (case c23 => k_is)
    (case k23 => k_is)
    (case a24 => k_is)
    (case l24 => k_is)
    (case c24 => k_is)
    (case k24 => k_is)
    (case a25 => k_is)
    (case l25 => k_is)
    (case c25 => k_is)
    (case k25 => k_is)
    (case a26 => k_is)
    (case l26 => k_is)
    (case c26 => k_is)
    (case k26 => k_is)
    (case z_isinstance => k_is)
    (case z_int => k_is)
    (case z_bool => k_is)
    (case z_tuple => k_is)
    (case z_len => k_is)
    (case z_all => k_is)
    (case z_set => k_is)
    (case z_str => k_is)
    (case z_enumerate => k_is)
    (case z_abs => k_is)
    (case z_list => k_is)
    (case z_range => k_is)
    (case z_min => k_is)
    (case z_max => k_is)
    (case z_repr => k_is)
    (case y_GREATEST_STAMP => k_is)
    (case y_WRITE => k_is)
    (case y_GREATEST_VALUE => k_is)
    (case y_READ => k_is)
    (case y_MOST_OPERATIONS => k_is)
    (case y_VALUE => k_is)
    (case y_KIND => k_is)
    (case y_MOST_DIGITS => k_is)
    (case y_NOTHING => k_is)


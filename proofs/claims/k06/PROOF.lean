import PyProof.Rows.All
import Wide.All
import OpenK.AllK
import Wide.FinOn
import KE.KStateDown
import HandS.ForMost
import HandS.IsInst
import HandS.FStr
import HandS.Star
import HandS.Style
import HandS.Codes
import HandS.Walk
import HandS.Defaults
import HandS.MakeKw
import HandS.SlotsOwn
import HandS.HeadEnd
import HandS.HeadHook1
import HandS.HeadHook2
import HandS.Head0
import HandS.Head1
import HandS.Head2
import HandS.Exc
import HandS.TryMany
import KE.KTryMore
import HandS.ExcInit
import HandS.ExcField
import HandS.Lambda
import HandS.EndTab
import HandS.HeadWalk
import HandS.HeadHook4
import KE.KExcInit
import HandS.MakeKwOnly
import HandS.TupAny
import PyProof.EqAt
import PyProof.MeetsIn
import PyProof.IsInstance
import PySem.Challenge.RW_tidewaiter_k06_webs_alike
set_option Elab.async false
set_option linter.all false
set_option maxRecDepth 100000
set_option maxHeartbeats 4000000
/-! rules of our own over the layer: a def's promise out of its place in the top (the promises themselves are C8's), methods called with keywords, len and repr of an own instance -/
namespace Tw
open PySem PySem.Spec PyProof.Rows L2
section
variable (P : Program) (w : World) (K : PySem.W.Frag) (mg : Str → Option Value) (base : Heap)
/-- the library's promises of a def and of a method, where every parameter is handed in -/
abbrev Cal (k : Nat) (x : Str) (sp : Sp) : Prop := C8.Cal P w K mg base k x sp []
abbrev Met (k : Nat) (C : Addr) (m : Str) (sp : Sp) : Prop := C8.Met P w K mg base k C m sp []
abbrev Mak (k : Nat) (x : Str) (C : Addr) (sp : Sp) (dvs : List V) : Prop := C8.Mak P w K mg base k x C sp dvs
/-- what is owed for a body: it can be read, and under the promise's premise its reading does what the promise tells -/
abbrev BodyOk (k : Nat) (N : List Str) (qual : Str) (body : List Stmt) (scope : Scope) (f : Addr) (sp : Sp) : Prop :=
  ∀ (cdv : Value) (A : Around) (outer : List Env) (s : Shared) (H : Hp) (vs : List V) (Q : VK) (E : XK), Room k (A.deeper (envOfC qual scope s.heap.objs.size f cdv)) → sp vs H Q E →
      ∃ t, PSs (cxOf CX0 P w K mg base N qual scope f cdv A outer s H E).nox body t ∧ t { nx := fun _ H' => Q .non H', rt := Q } (start N vs) H
/-- a method of C for n positional values (self among them) and the keywords ks; gV puts them into the parameters' order -/
structure MetG (CX : CXT) (k : Nat) (C : Addr) (m : Str) (sp : Sp) (n : Nat) (ks : List Str) (gV : List V → List V → List V) : Prop where
  ex : ∃ (f : Addr) (fd : FuncData) (ps : List Str) (g : List Value → List Value → List Value), Cls K C ∧ Meth K C m f ∧ FnOk P w K mg base CX k f fd ps sp ∧ KBn K fd ps n ks g gV
abbrev MetN (k : Nat) (C : Addr) (m : Str) (sp : Sp) (n : Nat) (ks : List Str) : Prop := MetG P w K mg base CX0 k C m sp n ks (fun us ws => us ++ ws)
end
section
variable {P : Program} {w : World} {K : PySem.W.Frag} {mg : Str → Option Value} {base : Heap} {x qual : Str} {C f : Addr} {params : Arguments} {body : List Stmt} {scope : Scope} {dvs : List V} {kws : List (Str × V)} {fd : FuncData} {N ps ks : List Str} {k n : Nat} {sp : Sp}
theorem fnok_of (F : FunD K x qual params body scope dvs kws f fd) (S : FnScope N ps scope) (len : ∀ vs H Q E, sp vs H Q E → vs.length = ps.length) (owed : BodyOk P w K mg base k N qual body scope f sp) : FnOk P w K mg base CX0 (k + 1) f fd ps sp :=
  F.ok S len fun cdv A outer s H vs Q E room h => (owed cdv A outer s H vs Q E room h).imp fun _ p => ⟨p.1.nox, p.2⟩
theorem cal_of (F : FunD K x x params body scope [] [] f fd) (hm : mg x = some (.ref f)) (b : Binds K fd ps []) (S : FnScope N ps scope) (len : ∀ vs H Q E, sp vs H Q E → vs.length = ps.length) (owed : BodyOk P w K mg base k N x body scope f sp) : Cal P w K mg base (k + 1) x sp :=
  ⟨f, fd, ps, [], fnok_of F S len owed, hm, F.kp, b, .nil⟩
theorem met_of (F : FunD K x qual params body scope dvs kws f fd) (c : Cls K C) (me : Meth K C x f) (b : Binds K fd ps []) (S : FnScope N ps scope) (len : ∀ vs H Q E, sp vs H Q E → vs.length = ps.length) (owed : BodyOk P w K mg base k N qual body scope f sp) : Met P w K mg base (k + 1) C x sp :=
  ⟨f, fd, ps, [], c, me, fnok_of F S len owed, b, .nil⟩
/-- no defaults: the handed values, put in order by g, are the parameters -/
theorem kbn_by (F : FunD K x qual params body scope [] kws f fd) (g : {α : Type} → List α → List α → List α) (hrel : ∀ {vs zs : List V} {us ws : List Value}, Vals vs us → Vals zs ws → Vals (g vs zs) (g us ws))
    (h : ∀ (kV doc pm : Value) (an : Option Addr) (cdv ct : Value) (us ws : List Value), us.length = n → ws.length = ks.length → bindArgs (PySem.W.fnOf x qual params body scope .none kV doc pm an cdv ct) ⟨us, ks.zip ws⟩ = pure (ps.zip (g us ws))) :
    KBn K fd ps n ks (fun us ws => g us ws) (fun us ws => g us ws) := by
  obtain ⟨_, _, _, kV, doc, pm, an, cdv, ct, _, rfl, _, _, none_ | ⟨some_, _⟩, _⟩ := F.ex
  · cases none_.2
    exact ⟨fun _ us ws _ l1 l2 => .of_eq (h kV doc pm an cdv ct us ws l1 l2), hrel⟩
  · cases some_ rfl
theorem kbn_of (F : FunD K x qual params body scope [] kws f fd)
    (h : ∀ (kV doc pm : Value) (an : Option Addr) (cdv ct : Value) (us ws : List Value), us.length = n → ws.length = ks.length → bindArgs (PySem.W.fnOf x qual params body scope .none kV doc pm an cdv ct) ⟨us, ks.zip ws⟩ = pure (ps.zip (us ++ ws))) :
    KBn K fd ps n ks (fun us ws => us ++ ws) (fun us ws => us ++ ws) := kbn_by F (fun us ws => us ++ ws) (fun r1 r2 => r1.append r2) h
end
section
variable {X : Cx} {CX : CXT} {k j n : Nat} {C : Addr} {x m : Str} {sp : Sp} {dvs : List V} {p pos apos : Pos} {e o : Expr} {es : List Expr} {ta : TE} {t tk : TA} {ks : List Str} {kws : List Keyword} {gV : List V → List V → List V} {E : XK} {pl : Sem Bool}
/-- C() with all its parameters left out -/
theorem pe_mk0 (c : Mak X.prog X.w X.K X.mg X.base k x C sp dvs) (hr : Room j X.A) (hk : k + 1 ≤ j) (hg : Gl X x) (hdb : (x == ("__debug__" : Str)) = false := by decide) : PE X (.Call (.Name x p) [] [] pos) (tMake C sp dvs E0 tNil) :=
  let ⟨_, _, _, _, made, F, at_, b, d⟩ := c.ex
  pe_make0 made F (hr.mono hk) hg at_ b d pass0 hdb
/-- the text o.m(e, .., k = v, ..) has no star, names its keywords ks, and goes these steps -/
structure KwForm (X : Cx) (pl : Sem Bool) (o e : Expr) (es : List Expr) (kws : List Keyword) (m : Str) (apos pos : Pos) (ks : List Str) : Prop where
  named : (backToKw pos (keywordEach kws X.env)).all (·.1.isSome) = true
  names : (backToKw pos (keywordEach kws X.env)).filterMap (·.1) = ks
  first : starEach (e :: es) X.env = (false, eval e X.env) :: starEach es X.env
  plain : ((backTo pos (starEach (e :: es) X.env)).any (·.1) || (backToKw pos (keywordEach kws X.env)).any (·.1.isNone)) = false
  steps : eval (.Call (.Attribute o m apos) (e :: es) kws pos) X.env =
    (eval o X.env >>= fun ov => standAt apos.atName >>= fun _ => holding [ov] (getMethod ov m pl) >>= fun g => callWith pos g.1 g.2 (backTo pos (starEach (e :: es) X.env)) (backToKw pos (keywordEach kws X.env)))
def tMethG (C : Addr) (m : Str) (n nk : Nat) (sp : Sp) (gV : List V → List V → List V) (E : XK) (ta : TE) (t tk : TA) : TE := fun σ H Q => ta σ H fun x H1 => ∃ a dx fs, x = .ref a ∧ H1 a = some (.ins C dx fs) ∧ fs.lookup m = none ∧
  t σ H1 fun vs H2 => tk σ H2 fun zs H3 => vs.length + 1 = n ∧ zs.length = nk ∧ sp (gV (x :: vs) zs) H3 Q E
theorem pe_mg (c : MetG X.prog X.w X.K X.mg X.base CX k C m sp n ks gV) (hx : Passes CX X E) (hr : Room j X.A) (hk : k ≤ j) (he : PE X o ta) (ha : PA X (e :: es) t) (hkw : PK X kws tk) (form : KwForm X pl o e es kws m apos pos ks) :
    PE X (.Call (.Attribute o m apos) (e :: es) kws pos) (tMethG C m n ks.length sp gV E ta t tk) := by
  obtain ⟨f, fd, ps, g, cls, me, F, kb⟩ := c.ex
  obtain ⟨named, rfl, first, plain, steps⟩ := form
  constructor
  intro pins s σ H Q I h
  refine PySem.W.methodCall_KW (pl := pl) (thn (he.run pins s σ H _ I h) ?_) steps
  rintro _ s1 ⟨_, H1, I1, obj, a, dx, fs, rfl, here, own, q⟩
  cases (show _ = Value.ref a from obj)
  refine getmeth_ok I1 here cls me own (PySem.W.callWith_KW (first := [.ref a]) (h₀ := X.base) I.ok.mod.kin me.kp named (thn (ha.run pos pins s1 σ H1 _ I1 q) ?_) plain first)
  rintro us s2 ⟨vs, H2, I2, rv, q2⟩
  refine thn (hkw.run pos pins s2 σ H2 _ I2 q2) ?_
  rintro ws s3 ⟨zs, H3, I3, rz, ln, lk, q3⟩
  exact ⟨I3.kIn, run_fnN (us := .ref a :: us) (vs := .ref a :: vs) F (hr.mono hk) kb hx I3 (.cons rfl rv) rz ln lk q3⟩
/-- .. where the method raises nothing -/
theorem pe_mg0 (c : MetG X.prog X.w X.K X.mg X.base CX0 k C m sp n ks gV) (hr : Room j X.A) (hk : k ≤ j) (he : PE X o ta) (ha : PA X (e :: es) t) (hkw : PK X kws tk) (form : KwForm X pl o e es kws m apos pos ks := by exact ⟨rfl, rfl, rfl, rfl, rfl⟩) :
    PE X (.Call (.Attribute o m apos) (e :: es) kws pos) (tMethG C m n ks.length sp gV E0 ta t tk) := pe_mg c pass0 hr hk he ha hkw form
/-- an own method without values, as a builtin finds and runs it -/
theorem own0 (c : Met X.prog X.w X.K X.mg X.base k C m sp) : ∃ f, PySem.W.findIn X.K (.ref C) m = some (some (.ref f)) ∧ PySem.W.isFn X.K (.ref f) = true ∧ FnR X.prog X.w X.K X.mg X.base CX0 k f sp := by
  obtain ⟨f, _, _, _, _, me, F, b, d⟩ := c.ex
  exact ⟨f, me.at_, me.fn, (F.raw b d).imp fun vs _ _ _ h => (List.append_nil vs).symm ▸ h⟩
/-- len(o) by an own __len__ -/
def rLenO (C : Addr) (sp : Sp) : List V → Hp → VK → Prop := fun xs H Q => ∃ a dx fs, xs = [.ref a] ∧ H a = some (.ins C dx fs) ∧ sp [.ref a] H (fun v H' => ∃ i : Int, v = .int i ∧ 0 ≤ i ∧ i < 2 ^ 63 ∧ Q (.int i) H') E0
theorem call_lenO (c : Met X.prog X.w X.K X.mg X.base k C "__len__" sp) (hr : Room j X.A) (hk : k + 1 ≤ j) : CallR X (.builtin "len") (rLenO C sp) := by
  rintro pins s σ H _ us Q I r ⟨a, dx, fs, rfl, here, q⟩
  obtain rfl := Vals.ref1 r
  obtain ⟨f, hs, hf, F⟩ := own0 c
  obtain ⟨_, J0, _⟩ := ins_get I.hok here
  obtain ⟨_, J, _⟩ := J0.look
  obtain ⟨_, hF⟩ := I.fr
  refine PySem.W.len_K hF I.ok.mod.kin J hs hf (thn (wpAny_call (SlX.run_at F (hr.mono hk).in1 I.env0.in1 pass0 I r q)) ?_)
  rintro _ s1 ⟨_, H1, I1, rv, i, rfl, low, high, q1⟩
  obtain ⟨_, rfl⟩ := rv
  exact ⟨⟨low, high⟩, .int i, H1, I1.tok _, ⟨_, rfl⟩, q1⟩
/-- repr(o) by an own __repr__ -/
def rReprO (C : Addr) (sp : Sp) : List V → Hp → VK → Prop := fun xs H Q => ∃ a dx fs, xs = [.ref a] ∧ H a = some (.ins C dx fs) ∧ sp [.ref a] H (fun v H' => ∃ z : Str, v = .str z ∧ Q (.str z) H') E0
theorem call_reprO (c : Met X.prog X.w X.K X.mg X.base k C "__repr__" sp) (hr : Room j X.A) (hk : k + 1 ≤ j) : CallR X (.builtin "repr") (rReprO C sp) := by
  rintro pins s σ H _ us Q I r ⟨a, dx, fs, rfl, here, q⟩
  obtain rfl := Vals.ref1 r
  obtain ⟨f, hs, hf, F⟩ := own0 c
  obtain ⟨_, J0, _⟩ := ins_get I.hok here
  obtain ⟨_, J, _⟩ := J0.look
  obtain ⟨_, hF⟩ := I.fr
  have room : Room k X.A.in1 := (hr.mono hk).in1
  refine PySem.W.repr_K room.units0 hF I.ok.mod.kin J hs hf (thn (wpAny_call (SlX.run_at F room I.env0.in1 pass0 I r q)) ?_)
  rintro _ s1 ⟨_, H1, I1, rv, z, rfl, q1⟩
  obtain ⟨_, rfl⟩ := rv
  exact ⟨.str z, H1, I1, ⟨_, rfl⟩, q1⟩
end
end Tw

set_option maxHeartbeats 4000000
/-! what the program's and the law's data are, and what heaps keep -/
namespace Tw
open PySem PySem.Spec PyProof.Rows L2
theorem bb_len : bootBuiltins "len" = some (.builtin "len") := by decide +kernel
theorem bb_all : bootBuiltins "all" = some (.builtin "all") := by decide +kernel
theorem bb_abs : bootBuiltins "abs" = some (.builtin "abs") := by decide +kernel
theorem bb_repr : bootBuiltins "repr" = some (.builtin "repr") := by decide +kernel
theorem bb_isinstance : bootBuiltins "isinstance" = some (.builtin "isinstance") := by decide +kernel
theorem bb_list : bootBuiltins "list" = some (.type "list") := by decide +kernel
theorem bb_tuple : bootBuiltins "tuple" = some (.type "tuple") := by decide +kernel
theorem bb_str : bootBuiltins "str" = some (.type "str") := by decide +kernel
theorem bb_bool : bootBuiltins "bool" = some (.type "bool") := by decide +kernel
theorem bb_int : bootBuiltins "int" = some (.type "int") := by decide +kernel
theorem bb_dict : bootBuiltins "dict" = some (.type "dict") := by decide +kernel
/-! isinstance with a built-in class -/
def kitT : String → String → Bool
  | "bool", "bool" => true
  | "bool", "int" => true
  | "int", "int" => true
  | "str", "str" => true
  | "list", "list" => true
  | "tuple", "tuple" => true
  | "dict", "dict" => true
  | _, _ => false
def kinds : List String := ["NoneType", "bool", "int", "str", "list", "tuple", "dict"]
theorem kitB_all : (kinds.all fun a => (kinds.drop 1).all fun b => decide (kitB a b = some (kitT a b))) = true := by decide +kernel
theorem kitB_of {a b : String} (ha : a ∈ kinds) (hb : b ∈ kinds.drop 1) : kitB a b = some (kitT a b) :=
  of_decide_eq_true (List.all_eq_true.mp (List.all_eq_true.mp kitB_all a ha) b hb)
/-- isinstance(x, T): the reading asks the kind of x -/
def rIsK (K : PySem.W.Frag) : List V → Hp → VK → Prop := fun xs H Q => ∃ (x : V) (n a : String), xs = [x, .ty n] ∧ TyX K H x (.type a) ∧ a ∈ kinds ∧ n ∈ kinds.drop 1 ∧ Q (.bl (kitT a n)) H
theorem call_isK {X : Cx} : CallR X (.builtin "isinstance") (rIsK X.K) := by
  intro pins s σ H xs us Q I r h
  obtain ⟨x, n, a, rfl, ty, ha, hn, q⟩ := h
  exact call_isi pins s σ H _ us Q I r ⟨x, .ty n, .type a, .type n, kitT a n, rfl, .ty n, ty, kit_ty (kitB_of ha hn), q⟩
/-! the same rules inside a comprehension's block, where the written part is the def's -/
section
variable {X : Cx} {K : PySem.W.Frag}
theorem ix_tupK (h : X.K = K) : IxR X (rIxT K) := h ▸ ix_tup
theorem ix_listK (h : X.K = K) : IxR X (rIxL K) := h ▸ ix_list
theorem ix_seqK (h : X.K = K) : IxR X (rIx K) := h ▸ ix_seq
theorem op_in_seqK (h : X.K = K) : OpR X (compareOp .In) (rIn K false) := h ▸ op_in_seq
theorem op_notIn_seqK (h : X.K = K) : OpR X (compareOp .NotIn) (rIn K true) := h ▸ op_notIn_seq
theorem call_len_seqK (h : X.K = K) : CallR X (.builtin "len") (fun xs H Q => ∃ p ys, xs = [.ref p] ∧ (SqL K H p ys ∨ SqT K H p ys) ∧ Q (.int ys.length) H) := h ▸ call_len_seq
theorem call_isKK (h : X.K = K) : CallR X (.builtin "isinstance") (rIsK K) := h ▸ call_isK
theorem pe_fldK {e : Expr} {f : Str} {ta : TE} {pos : Pos} (h : X.K = K) (ha : PE X e ta) (hb : attributeBase e f X.env (eval e X.env) = eval e X.env) : PE X (.Attribute e f pos) (tFld K ta f) := h ▸ pe_fld ha hb
theorem pg_tupK {es : List Expr} {k : Nat} {t : TGs} {n : Nat} {pos : Pos} (h : X.K = K) (hc : X.calm = true) (hg : PGs X es t) (hn : (assignEach es X.env).length = n := by rfl) (hst : (assignEach es X.env).findIdx? (·.1) = none := by rfl) : PG X (.Tuple es k pos) (gTup K n t) := h ▸ pg_tup hc hg hn hst
end
theorem yes_i {σ : L2.St} {H : Hp} {Q : Bool → Hp → Prop} (h : Q true H) : tYes σ H Q := h
/-! ### heaps -/
theorem same_upd {H : Hp} {p : Addr} {o : HO} (h : H p = none) : Same H (upd H p o) := fun b x e => by
  rw [upd_ne (ne_of_none e h)]
  exact e
/-- all but the place f stays -/
def Sb (f : Addr) (H H' : Hp) : Prop := ∀ b o, H b = some o → b ≠ f → H' b = some o
theorem Sb.refl {f : Addr} {H : Hp} : Sb f H H := fun _ _ h _ => h
theorem Sb.of {f : Addr} {H H' : Hp} (s : Same H H') : Sb f H H' := fun b o h _ => s b o h
theorem Sb.trans {f : Addr} {H H1 H2 : Hp} (a : Sb f H H1) (b : Sb f H1 H2) : Sb f H H2 := fun c o h n => b c o (a c o h n) n
theorem Sb.upd {f : Addr} {H : Hp} {o : HO} : Sb f H (upd H f o) := fun b x e n => by
  rw [upd_ne n]
  exact e
/-- tuples stay -/
def Kt (H H' : Hp) : Prop := ∀ b xs, H b = some (.tup xs) → H' b = some (.tup xs)
theorem Kt.of {H H' : Hp} (s : Same H H') : Kt H H' := fun b _ h => s b _ h
theorem Kt.trans {H H1 H2 : Hp} (a : Kt H H1) (b : Kt H1 H2) : Kt H H2 := fun c o h => b c o (a c o h)
theorem Sb.kt {f : Addr} {H H' : Hp} {xs : List V} (s : Sb f H H') (hf : H f = some (.lst xs)) : Kt H H' := fun b _ h => s b _ h (ne_of h hf (by intro z; cases z))
theorem Kt.upd {H : Hp} {p : Addr} {o : HO} (h : ∀ xs, H p = some (.tup xs) → o = .tup xs) : Kt H (upd H p o) := fun b xs e => by
  by_cases hb : b = p
  · subst hb
    rw [upd_same, h xs e]
  · rw [upd_ne hb]
    exact e
/-! ### the data -/
structure Wd where
  en : Str
  bg : Str
  lo : Int
  hi : Int
  la : Option Int
structure Bd where
  one : Str
  oth : Str
  bot : Option Int
  top : Option Int
/-- a web as the law keeps it -/
structure Md where
  last : Int
  own : List Str
  wd : List Wd
  bd : List Bd
def oV : Option Int → V
  | none => .non
  | some i => .int i
def Wd.row (x : Wd) : List V := [.str x.en, .str x.bg, .int x.lo, .int x.hi, oV x.la]
def Bd.row (x : Bd) : List V := [.str x.one, .str x.oth, oV x.bot, oV x.top]
def Md.pts (m : Md) : List Str := "start" :: (m.own ++ m.wd.map (·.en))
/-- tuples stand at these places -/
def Rows (H : Hp) (xs : List V) (rs : List (List V)) : Prop := Paired (fun x r => ∃ t, x = V.ref t ∧ H t = some (.tup r)) xs rs
theorem Rows.keep {H H' : Hp} (k : Kt H H') {xs : List V} {rs : List (List V)} (h : Rows H xs rs) : Rows H' xs rs := Paired.mono (fun _ _ ⟨t, e, ht⟩ => ⟨t, e, k t _ ht⟩) h
theorem Rows.len {H : Hp} {xs : List V} {rs : List (List V)} (h : Rows H xs rs) : xs.length = rs.length := Paired.length h
theorem Rows.snoc {H : Hp} {xs : List V} {rs : List (List V)} {t : Addr} {r : List V} (h : Rows H xs rs) (e : H t = some (.tup r)) : Rows H (xs ++ [.ref t]) (rs ++ [r]) := Paired.snoc h ⟨t, rfl, e⟩
theorem paired_at {α β : Type} {F : α → β → Prop} : ∀ {l : List α} {m : List β} {i : Nat} {a : α}, Paired F l m → l[i]? = some a → ∃ b, m[i]? = some b ∧ F a b
  | _, _, 0, _, .cons h _, e => by
    cases e
    exact ⟨_, rfl, h⟩
  | _, _, i + 1, a, .cons _ t, e => by
    obtain ⟨b, h1, h2⟩ := paired_at (i := i) t e
    exact ⟨b, h1, h2⟩
theorem Rows.at {H : Hp} {xs : List V} {rs : List (List V)} {i : Nat} {x : V} (h : Rows H xs rs) (e : xs[i]? = some x) : ∃ t r, x = .ref t ∧ rs[i]? = some r ∧ H t = some (.tup r) := by
  obtain ⟨r, h1, t, h2, h3⟩ := paired_at h e
  exact ⟨t, r, h2, h1, h3⟩
/-- a Web's attributes -/
def wf (last : Int) (a b c : Addr) : List (Str × V) := [("by", .int last), ("moment_rows", .ref a), ("span_rows", .ref b), ("tie_rows", .ref c)]
theorem wf_by {l : Int} {a b c : Addr} : (wf l a b c).lookup ("by" : Str) = some (.int l) := by
  unfold wf
  rw [List.lookup_cons_self]
theorem wf_m {l : Int} {a b c : Addr} : (wf l a b c).lookup ("moment_rows" : Str) = some (.ref a) := by
  unfold wf
  rw [List.lookup_cons, show (("moment_rows" : Str) == "by") = false by decide +kernel, List.lookup_cons_self]
theorem wf_s {l : Int} {a b c : Addr} : (wf l a b c).lookup ("span_rows" : Str) = some (.ref b) := by
  unfold wf
  rw [List.lookup_cons, show (("span_rows" : Str) == "by") = false by decide +kernel, List.lookup_cons, show (("span_rows" : Str) == "moment_rows") = false by decide +kernel, List.lookup_cons_self]
theorem wf_t {l : Int} {a b c : Addr} : (wf l a b c).lookup ("tie_rows" : Str) = some (.ref c) := by
  unfold wf
  rw [List.lookup_cons, show (("tie_rows" : Str) == "by") = false by decide +kernel, List.lookup_cons, show (("tie_rows" : Str) == "moment_rows") = false by decide +kernel, List.lookup_cons, show (("tie_rows" : Str) == "span_rows") = false by decide +kernel, List.lookup_cons_self]
def webAttrs : List Str := ["by", "moment_rows", "span_rows", "tie_rows"]
theorem wf_no {l : Int} {a b c : Addr} {m : Str} (h : webAttrs.all (fun x => !(m == x)) = true) : (wf l a b c).lookup m = none := by
  unfold webAttrs at h
  simp only [List.all_cons, List.all_nil, Bool.and_true, Bool.and_eq_true, Bool.not_eq_true'] at h
  obtain ⟨h1, h2, h3, h4⟩ := h
  unfold wf
  rw [List.lookup_cons, h1, List.lookup_cons, h2, List.lookup_cons, h3, List.lookup_cons, h4]
  rfl
/-- a web stands at p -/
structure WebAt (C : Addr) (H : Hp) (p : Addr) (m : Md) : Prop where
  ex : ∃ (dx a b c : Addr) (ws bs : List V), H p = some (.ins C dx (wf m.last a b c)) ∧ H a = some (.tup (m.own.map V.str)) ∧ H b = some (.tup ws) ∧ Rows H ws (m.wd.map Wd.row) ∧ H c = some (.tup bs) ∧ Rows H bs (m.bd.map Bd.row)
  len : m.own.length ≤ 10 ∧ m.wd.length ≤ 4 ∧ m.bd.length ≤ 40
  last : 1 ≤ m.last ∧ m.last ≤ 1000
theorem WebAt.keep {C : Addr} {H H' : Hp} {p : Addr} {m : Md} (h : WebAt C H p m) (hp : ∀ dx fs, H p = some (.ins C dx fs) → H' p = some (.ins C dx fs)) (k : Kt H H') : WebAt C H' p m := by
  obtain ⟨dx, a, b, c, ws, bs, h1, h2, h3, h4, h5, h6⟩ := h.ex
  exact ⟨⟨dx, a, b, c, ws, bs, hp _ _ h1, k _ _ h2, k _ _ h3, h4.keep k, k _ _ h5, h6.keep k⟩, h.len, h.last⟩
theorem WebAt.same {C : Addr} {H H' : Hp} {p : Addr} {m : Md} (h : WebAt C H p m) (s : Same H H') : WebAt C H' p m := h.keep (fun _ _ e => s _ _ e) (Kt.of s)
theorem WebAt.sb {C : Addr} {H H' : Hp} {p f : Addr} {m : Md} {xs : List V} (h : WebAt C H p m) (s : Sb f H H') (hf : H f = some (.lst xs)) : WebAt C H' p m :=
  h.keep (fun _ _ e => s _ _ e (ne_of e hf (by intro z; cases z))) (s.kt hf)
/-- what is a name -/
abbrev letters : Str := "abcdefghijklmnopqrstuvwxyz"
def Nm (z : Str) : Prop := 1 ≤ z.length ∧ z.length ≤ 8 ∧ ∀ c ∈ z.cps.toList, c ∈ letters.cps.toList
end Tw

set_option maxHeartbeats 4000000
/-! a try with several clauses, each of one, two or three classes, each with a name -/
namespace Tw
open PySem PySem.Spec PyProof.Rows L2
/-- the classes that a clause names -/
inductive Cls3 (X : Cx) : Expr → List Value → Prop
  | one {x : Str} {c : Value} {np : Pos} (h : Names X x c) : Cls3 X (.Name x np) [c]
  | two {x y : Str} {c d : Value} {p q r : Pos} {kk : Nat} (h1 : Names X x c) (h2 : Names X y d) : Cls3 X (.Tuple [.Name x p, .Name y q] kk r) [c, d]
  | three {x y z : Str} {c d e : Value} {p q r t : Pos} {kk : Nat} (h1 : Names X x c) (h2 : Names X y d) (h3 : Names X z e) : Cls3 X (.Tuple [.Name x p, .Name y q, .Name z r] kk t) [c, d, e]
theorem exm1 {K : PySem.W.Frag} {cls c : Value} {b : Bool} (h : PySem.W.exmAny K cls [c] = some b) : PySem.W.exmOne K cls c = some b := by
  obtain ⟨b1, d1, h1, h2, e⟩ := PySem.W.exmAny_cons h
  have e2 : d1 = false := (Option.some.inj h2).symm
  rw [e, e2, Bool.or_false]
  exact h1
section
variable {X : Cx} {a : Addr} {pn : List (Addr × Obj)} {σ : L2.St} {H : Hp}
theorem named {s : Shared} {x : Str} {c : Value} {np : Pos} {Q : Value → Shared → Prop} {E : Value → Shared → Prop} (S : Inv (X.suite a pn) [] σ H s) (h : Names X x c) (q : Q c s) : wpAny (model X.prog X.w) (X.A.mark (some (.ref a))) (eval (.Name x np) X.env) Q E s := by
  obtain ⟨hg, hd, hm | ⟨hm, hv, hn⟩⟩ := h
  · exact ld_glob (X := X.suite a pn) S hg hm q hd
  · exact ld_blt (X := X.suite a pn) S hg hm hv q hn hd
/-- whether a clause takes the exception; a tuple of classes is laid -/
theorem cls3_test {s : Shared} {te : Expr} {cs : List Value} {cls : Value} {b : Bool} {Q : Bool → Shared → Prop} {E : Value → Shared → Prop} (T : Cls3 X te cs) (S : Inv (X.suite a pn) [] σ H s) (LT : PySem.W.Looks (model X.prog X.w) s.heap (typeOf (.ref a)) cls) (hb : PySem.W.exmAny X.K cls cs = some b)
    (q : ∀ h', (∀ b o, s.heap.get? b = some o → h'.get? b = some o) → Q b { s with heap := h' }) :
    wpAny (model X.prog X.w) (X.A.mark (some (.ref a))) (eval te X.env) (fun c s₁ => wpAny (model X.prog X.w) (X.A.mark (some (.ref a))) (excMatches (.ref a) c) Q E s₁) E s := by
  have kin : X.K.In s.heap := S.kIn
  cases T with
  | one h => exact named S h ((PySem.W.exm_one kin LT (exm1 hb)).here (q s.heap fun _ _ z => z))
  | @two x y c d p1 p2 p3 kk h1 h2 =>
    have kp : ∀ b o, s.heap.get? b = some o → (s.heap.push { cls := .type "tuple", data := .seq [c, d].toArray }).get? b = some o := fun b o z => Heap.get?_push_of_some _ z
    refine wpAny_Tuple (wpAny_items_cons (named S h1 (wpAny_items_cons (named S h2 (wpAny_items_nil ⟨by show 2 ≤ sizeLine; decide, ?_⟩)))))
    exact (PySem.W.exm_tup2 (kin.keeps kp) (LT.keeps kp) (Heap.get?_push_size s.heap rfl) hb).here (q _ kp)
  | @three x y z c d e p1 p2 p3 p4 kk h1 h2 h3 =>
    have kp : ∀ b o, s.heap.get? b = some o → (s.heap.push { cls := .type "tuple", data := .seq [c, d, e].toArray }).get? b = some o := fun b o z => Heap.get?_push_of_some _ z
    refine wpAny_Tuple (wpAny_items_cons (named S h1 (wpAny_items_cons (named S h2 (wpAny_items_cons (named S h3 (wpAny_items_nil ⟨by show 3 ≤ sizeLine; decide, ?_⟩)))))))
    exact (PySem.W.exm_tup3 (kin.keeps kp) (LT.keeps kp) (Heap.get?_push_size s.heap rfl) hb).here (q _ kp)
end
theorem fly_more {B h h' : Heap} {l : List Env} {e : Addr} {Z : Obj → Prop} (f : HandSPX.FlyingZ B l e Z h) (k : ∀ b o, h.get? b = some o → h'.get? b = some o) : HandSPX.FlyingZ B l e Z h' := by
  obtain ⟨f1, f2, f3, oe, vs, T, oT, ts, t1, t2, t3, t4, t5, t6, t7, t8⟩ := f
  exact ⟨fun b o z => k b o (f1 b o z), f2, f3.of_keeps fun b o z _ => ⟨o, k b o z, rfl⟩, oe, vs, T, oT, ts, k _ _ t1, t2, t3, t4, t5, t6, k _ _ t7, t8⟩
abbrev Hdl := List Value × (Addr → Value → Option Addr → TS)
/-- how a suite with a name in slot i ends -/
def endsAs (i : Nat) (D : Ends) : Ends := { nx := fun σ H => D.nx (σ.set i none) H, rt := D.rt, bk := fun σ H => D.bk (σ.set i none) H, ct := fun σ H => D.ct (σ.set i none) H }
/-- what the clauses wish of an exception, one behind the other -/
def wAsM (K : PySem.W.Frag) (i : Nat) (Wo : WX) (D : Ends) : List Hdl → WX
  | [] => Wo
  | (cs, ts) :: r => fun cls d σ H => ∃ b, PySem.W.exmAny K cls cs = some b ∧ (b = true → ∀ a, H a = none → ts a cls d (endsAs i D) (σ.set i (some (.ref a))) H) ∧ (b = false → wAsM K i Wo D r cls d σ H)
inductive HdAs (X : Cx) (n : Str) : List ExceptHandler → List Hdl → Prop
  | nil : HdAs X n [] []
  | cons {te : Expr} {cs : List Value} {ts : Addr → Value → Option Addr → TS} {st : Stmt} {su : List Stmt} {pos : Pos} {hds : List ExceptHandler} {l : List Hdl} (hc : Cls3 X te cs)
      (hsu : ∀ (a : Addr) (oe : Obj) (cls : Value) (d : Option Addr) (pn : List (Addr × Obj)), Zc cls d oe → (∃ vs, oe.data = .fields vs) → PSs (X.suite a ((a, oe) :: pn)) (st :: su) (ts a cls d)) (r : HdAs X n hds l) :
      HdAs X n (.ExceptHandler (some te) (some n) (st :: su) pos :: hds) ((cs, ts) :: l)
/-- an exception a that has come down at this frame, as the heap h has it; sI: the state without it -/
structure Down (X : Cx) (pins : List (Addr × Obj)) (σ : L2.St) (H : Hp) (sI s' : Shared) (B : Heap) (a : Addr) (cls : Value) (d : Option Addr) (h : Heap) : Prop where
  inv : Inv X pins σ H sI
  ground : ∀ b o, sI.heap.get? b = some o → b ∉ frs X.stack → B.get? b = some o
  fly : HandSPX.FlyingZ B (X.env :: X.outer) a (Zc cls d) h
  up : sI.heap.UpToSlots h
  free : H a = none
  os : s'.os = sI.os
  bare : AllBare s'.gens
/-- what is to be done with an exception of the body -/
def onCatch (X : Cx) (pins : List (Addr × Obj)) (D : Ends) (hds : List ExceptHandler) (e : Value) (s : Shared) : Prop :=
  wpAny (model X.prog X.w) X.A (noteFrame e X.env) (fun _ s1 => wpAny (model X.prog X.w) X.A (setFlight e none) (fun _ s2 => wpAny (model X.prog X.w) X.A (handleBy e X.env hds) (SP X pins D) X.xe s2) X.xe s1) X.xe s
section
variable {X : Cx} {pins : List (Addr × Obj)} {σ : L2.St} {H : Hp} {sI s' : Shared} {B h h' : Heap} {a : Addr} {cls : Value} {d : Option Addr} {i : Nat} {n : Str} {Wo : WX} {D : Ends} {hds : List ExceptHandler} {l : List Hdl}
theorem Down.more (dn : Down X pins σ H sI s' B a cls d h) (k : ∀ b o, h.get? b = some o → h'.get? b = some o) : Down X pins σ H sI s' B a cls d h' := { dn with fly := fly_more dn.fly k, up := dn.up.trans (Heap.UpToSlots.of_keeps k) }
/-- its suite may begin -/
theorem Down.suite (dn : Down X pins σ H sI s' B a cls d h) (hf : X.env.frame = some X.env.locals) : ∃ oe, h.get? a = some oe ∧ Zc cls d oe ∧ (∃ vs, oe.data = .fields vs) ∧ Inv (X.suite a ((a, oe) :: (X.pn ++ pins))) [] σ H { s' with heap := h } := by
  obtain ⟨oe, vs, at_, zc, hd⟩ := dn.fly.there
  have noFrame : ∀ e ∈ X.env :: X.outer, e.frame ≠ some a := fun e he hfr => by
    obtain ⟨_, o, ho, no⟩ := dn.fly.2.2.1.mem (List.mem_filterMap.mpr ⟨e, he, hfr⟩)
    cases ho.symm.trans at_
    exact no _ hd
  refine ⟨oe, at_, zc, ⟨vs, hd⟩, (dn.inv.landed (s' := { s' with heap := h }) dn.ground dn.fly.1 dn.up dn.os dn.bare).suite at_ hd dn.free ?_ ?_⟩
  · rintro rfl
    exact noFrame X.env (.head _) hf
  · intro inFs
    obtain ⟨e, he, hfr⟩ := List.mem_filterMap.mp inFs
    exact noFrame e (.tail _ he) hfr
/-- no clause takes it: it goes on -/
theorem Down.pass (dn : Down X pins σ H sI s' B a cls d h) (hs : X.stack = X.env :: X.outer) (hf : X.env.frame = some X.env.locals) (tk : Takes X Wo) (wish : Wo cls d σ H) : wpAny (model X.prog X.w) X.A (handleBy (.ref a) X.env []) (SP X pins D) X.xe { s' with heap := h } := by
  have goes : ∀ h4, HandSPX.HeldZ B (X.env :: X.outer) a (Zc cls d) X.env.locals h4 → h.UpToSlots h4 → X.xe (.ref a) { s' with heap := h4 } := fun h4 held up4 =>
    tk _ _ ⟨a, B, sI, pins, σ, H, cls, d, rfl, dn.inv, dn.ground, dn.up.trans up4, .inr (.inr (hs ▸ held)), dn.free, dn.os, dn.bare, wish⟩
  obtain ⟨_, _, T, _, _, at_, _, hd, traced, _⟩ := dn.fly.2.2.2
  refine wpAny_handleBy_nil ?_
  unfold PySem.passOn
  rw [hf]
  refine wpAny_bind (wpAny_field at_ hd traced ?_)
  rw [if_neg (by simp)]
  repeat (first | with_reducible refine HandSPX.setFlight_upZ dn.fly fun h4 held up4 => ?_ | with_reducible refine wpAny_throw (goes _ held up4) | wp_step)
/-- behind a suite its name goes -/
theorem suite_ends {q : Addr × Obj} {f : Flow} {s6 : Shared} {pos : Pos} (ok : X.Ok) (hN : X.N.Nodup) (hi : X.N[i]? = some n) (hln : X.env.kindOf n = some .local) (ended : SP (X.suite a (q :: (X.pn ++ pins))) [] (endsAs i D) f s6) :
    wpAny (model X.prog X.w) X.A (do bindName X.env n .none; unbindBehindTheSuite X.env n pos) (fun _ s7 => SP X pins D f s7) X.xe s6 := by
  cases f with
  | ret u =>
    obtain ⟨v, _, H6, S6, r, q6⟩ := ended
    exact gone_ok (S6.unsuite ok) hN hi hln fun s7 J => ⟨v, _, H6, J, r, q6⟩
  | next =>
    obtain ⟨_, H6, S6, q6⟩ := ended
    exact gone_ok (S6.unsuite ok) hN hi hln fun s7 J => ⟨_, H6, J, q6⟩
  | brk =>
    obtain ⟨_, H6, S6, q6⟩ := ended
    exact gone_ok (S6.unsuite ok) hN hi hln fun s7 J => ⟨_, H6, J, q6⟩
  | cont =>
    obtain ⟨_, H6, S6, q6⟩ := ended
    exact gone_ok (S6.unsuite ok) hN hi hln fun s7 J => ⟨_, H6, J, q6⟩
theorem Down.clauses (hs : X.stack = X.env :: X.outer) (hf : X.env.frame = some X.env.locals) (hN : X.N.Nodup) (hi : X.N[i]? = some n) (hln : X.env.kindOf n = some .local) (tk : Takes X Wo) (hh : HdAs X n hds l) :
    ∀ {h : Heap}, Down X pins σ H sI s' B a cls d h → wAsM X.K i Wo D l cls d σ H → wpAny (model X.prog X.w) X.A (handleBy (.ref a) X.env hds) (SP X pins D) X.xe { s' with heap := h } := by
  induction hh with
  | nil => exact fun dn wish => dn.pass hs hf tk wish
  | cons hc hsu _ further =>
    rintro h dn ⟨b, fits, yes, no⟩
    obtain ⟨oe, at_, zc, _, S⟩ := dn.suite hf
    have kind : PySem.W.Looks (model X.prog X.w) h (typeOf (.ref a)) cls := fun _ _ _ _ k q => wpAny_typeOf_ref (k _ _ at_) (by rw [zc.1]; exact q)
    refine wpAny_handleBy_cons (codeAny_handlers_test (cls3_test hc S kind fits fun h6 k6 => ?_)) (fun q => nomatch q)
    cases b with
    | false => exact further (dn.more k6) (no rfl)
    | true =>
      refine codeAny_handlers_suite_as (HandSPX.lands_againZ (dn.more k6).fly fun h4 fl4 up4 => ?_)
      obtain ⟨o4, _, zc4, hd4, S4⟩ := Down.suite { dn.more k6 with fly := fl4, up := (dn.more k6).up.trans up4 } hf
      refine store_ok (X := X.suite a ((a, o4) :: (X.pn ++ pins))) (v := .ref a) S4 hN hi (.inl hln) rfl (fun s5 S5 => ?_) (.inr hln)
      exact wpAny_mono ((hsu a o4 cls d (X.pn ++ pins) zc4 hd4).run [] s5 _ H _ S5 (yes rfl a dn.free)) (fun f s6 ended => suite_ends dn.inv.ok hN hi hln ended) fun _ _ z => z.elim
end
section
variable {X : Cx} {i : Nat} {n : Str} {body : List Stmt} {h₀ : ExceptHandler} {hds : List ExceptHandler} {l : List Hdl} {pos : Pos} {tb : WX → TS} {Wo : WX}
/-- try: body, except (A, B) as n: .., except C as n: .. -/
theorem ps_tryM (hs : X.stack = X.env :: X.outer) (hf : X.env.frame = some X.env.locals) (hN : X.N.Nodup) (hi : X.N[i]? = some n) (hln : X.env.kindOf n = some .local) (tk : Takes X Wo)
    (hb : ∀ (W : WX) (pn : List (Addr × Obj)) (xe : Value → Shared → Prop), Takes (X.tr pn xe) W → PassesOwn (model X.prog X.w) X.A X.env xe → PSs (X.tr pn xe) body (tb W)) (hh : HdAs X n (h₀ :: hds) l) :
    PS X (.Try body (h₀ :: hds) [] [] pos) (fun D σ H => tb (fun cls d σ' H' => σ'.length = X.N.length → wAsM X.K i Wo D l cls d σ' H') D σ H) := by
  constructor
  intro pins s σ H D I h
  have ok := I.ok
  have caught : Takes (X.tr (X.pn ++ pins) (onCatch X pins D (h₀ :: hds))) (fun cls d σ' H' => σ'.length = X.N.length → wAsM X.K i Wo D l cls d σ' H') := by
    rintro _ s1 ⟨a, B, sI, _, σ1, H1, cls, d, rfl, J, ground, up, sky, free, os, bare, wish⟩
    exact Sky.land Zc.steady (ok.frames.trans (congrArg some hs)) hf (hs ▸ sky) fun h3 fly up3 => Down.clauses hs hf hN hi hln tk hh ⟨J.ofTry ok, ground, fly, up.trans up3, free, os, bare⟩ (wish J.len)
  refine wpAny_Try_except (wpAny_mono ((hb _ _ _ caught PassesOwn.looking).run [] s σ H D (I.toTry _) h) (fun f s1 ended => ?_) fun _ _ z => z)
  cases f with
  | ret u =>
    obtain ⟨v, σ1, H1, J, r, q⟩ := ended
    exact ⟨v, σ1, H1, J.ofTry ok, r, q⟩
  | next =>
    obtain ⟨σ1, H1, J, q⟩ := ended
    exact wpAny_execs_nil ⟨σ1, H1, J.ofTry ok, q⟩
  | brk =>
    obtain ⟨σ1, H1, J, q⟩ := ended
    exact ⟨σ1, H1, J.ofTry ok, q⟩
  | cont =>
    obtain ⟨σ1, H1, J, q⟩ := ended
    exact ⟨σ1, H1, J.ofTry ok, q⟩
end
end Tw

set_option maxHeartbeats 4000000
/-! own exceptions: fields read in a suite, __init__ called through its class, defs that raise, the head with tables -/
namespace Tw
open PySem PySem.Spec PyProof.Rows L2
/-! ### a field of the caught exception, whatever its class -/
def tXw (K : PySem.W.Frag) (a : Addr) (cls : Value) (d : Option Addr) (f : Str) (te : TE) : TE := fun σ H Q => te σ H fun x H1 => x = .ref a ∧ ∃ (C dd : Addr) (fs : List (Str × V)) (v : V), cls = .ref C ∧ XfC K C ∧ PySem.W.findIn K (.ref C) f = some none ∧ d = some dd ∧ H1 dd = some (.xd fs) ∧ fs.lookup f = some v ∧ Q v H1
theorem xd_field {P : Program} {w : World} {H : Hp} {h : Heap} {dd : Addr} {fs : List (Str × V)} {n : Str} {v : V} (hok : HOk P w H h) (at_ : H dd = some (.xd fs)) (l : fs.lookup n = some v) : ∃ od z, h.get? dd = some od ∧ PySem.W.lookIn n od = some (some z) ∧ RelV v z := by
  obtain ⟨m, ns, rel⟩ := (show ObjOk P w H h dd (.xd fs) from hok dd _ at_)
  obtain ⟨od, ho, look⟩ := lookIn_ns ns
  obtain ⟨z, hz, rz⟩ := RelO.some_of (v := v) (o := m n) (l ▸ rel n)
  exact ⟨od, z, ho, (look n).trans (congrArg some hz), rz⟩
theorem pe_xw {X : Cx} {a : Addr} {oe : Obj} {cls : Value} {d : Option Addr} {pn : List (Addr × Obj)} {e : Expr} {te : TE} {pos : Pos} {n : Str} (hz : Zc cls d oe) (hf : ∃ vs, oe.data = .fields vs) (he : PE (X.suite a ((a, oe) :: pn)) e te)
    (hb : attributeBase e n X.env (eval e X.env) = eval e X.env := by rfl) : PE (X.suite a ((a, oe) :: pn)) (.Attribute e n pos) (tXw X.K a cls d n te) := by
  constructor
  intro pins s σ H Q I h
  refine attr_of hb (thn (he.run pins s σ H _ I h) ?_)
  rintro _ s1 ⟨_, H1, I1, obj, rfl, C, dd, fs, v, rfl, T, no, rfl, ea, l, q⟩
  cases (show _ = Value.ref a from obj)
  obtain ⟨od, z, ho, look, rz⟩ := xd_field I1.hok ea l
  obtain ⟨vs, hd⟩ := hf
  have caught : s1.heap.get? a = some oe := (I1.pin (a, oe) (by simp)).1
  have whole : PySem.W.InstAt s1.heap a oe C (some od) := ⟨caught, hz.1, by simp [PySem.W.notCls, hd], by simpa [hz.2] using ho⟩
  exact HandSPX.exc_get I1.kIn whole T.ga T.gg T.exC (PySem.W.findObj_own T.hdC no rfl look) (handed_of rz) ⟨v, H1, I1.tok _, rz, q⟩
/-! ### the forms of a text: plain values only -/
/-- x(e, ..) -/
structure Flat (X : Cx) (x : Str) (e : Expr) (es : List Expr) (pos : Pos) : Prop where
  dbg : (x == ("__debug__" : Str)) = false
  first : starEach (e :: es) X.env = (false, eval e X.env) :: starEach es X.env
  plain : (backTo pos (starEach es X.env)).any (·.1) = false
/-- o.m(e, ..) -/
structure MeForm (X : Cx) (pl : Sem Bool) (o e : Expr) (es : List Expr) (m : Str) (apos pos : Pos) : Prop where
  first : starEach (e :: es) X.env = (false, eval e X.env) :: starEach es X.env
  plain : (backTo pos (starEach es X.env)).any (·.1) = false
  steps : eval (.Call (.Attribute o m apos) (e :: es) [] pos) X.env =
    (eval o X.env >>= fun ov => standAt apos.atName >>= fun _ => holding [ov] (getMethod ov m pl) >>= fun g => callWith pos g.1 g.2 (backTo pos (starEach (e :: es) X.env)) (backToKw pos (keywordEach [] X.env)))
/-! ### x.m(..): a def read off a class -/
structure ClsDef (K : PySem.W.Frag) (C f : Addr) (m : Str) : Prop where
  reads : PySem.W.readsIn K C (.type "type") = true
  special : PySem.W.specialIn K (.ref C) "__getattribute__" = some (some (.builtin "type.__getattribute__"))
  find : PySem.W.findCls K (.ref C) (.type "type") m = some (.val (.ref f))
section
variable {X : Cx} {k j : Nat} {f C : Addr} {fd : FuncData} {ps : List Str} {sp : Sp} {x m : Str} {p1 p2 pos : Pos} {e : Expr} {es : List Expr} {t : TA} {pl : Sem Bool}
theorem pe_ci (T : ClsDef X.K C f m) (hg : Gl X x) (hm : X.mg x = some (.ref C)) (hk : PySem.W.keepIn X.K (.ref f) = true) (F : FnOk X.prog X.w X.K X.mg X.base CX0 k f fd ps sp) (hr : Room j X.A) (hj : k ≤ j) (hb : Binds X.K fd ps []) (ha : PA X (e :: es) t)
    (form : MeForm X pl (.Name x p1) e es m p2 pos := by exact ⟨rfl, rfl, rfl⟩) (hdb : (x == ("__debug__" : Str)) = false := by decide) :
    PE X (.Call (.Attribute (.Name x p1) m p2) (e :: es) [] pos) (tCall sp [] E0 t) := by
  constructor
  intro pins s σ H Q I h
  refine PySem.W.methodCall_KW (pl := pl) (ld_glob I hg hm (PySem.W.method_cls I.kIn T.special (PySem.W.cls_value I.kIn T.reads T.find rfl ?_)) hdb) form.steps
  refine PySem.W.callWith_K (first := []) (h₀ := X.base) I.ok.mod.kin hk (thn (ha.run pos pins _ σ H _ (I.tok _) h) ?_) form.first form.plain
  rintro us s2 ⟨vs, H2, I2, r, q2⟩
  exact ⟨I2.kIn, run_fn (us := us) (vs := vs) F (hr.mono hj) hb .nil pass0 I2 r q2⟩
end
/-! ### defs that raise -/
structure CalX (P : Program) (w : World) (K : PySem.W.Frag) (mg : Str → Option Value) (base : Heap) (k : Nat) (x : Str) (sp : Sp) : Prop where
  ex : ∃ (f : Addr) (fd : FuncData) (ps : List Str), FnOk P w K mg base (L2.CX P w) k f fd ps sp ∧ mg x = some (.ref f) ∧ PySem.W.keepIn K (.ref f) = true ∧ Binds K fd ps []
structure MetX (P : Program) (w : World) (K : PySem.W.Frag) (mg : Str → Option Value) (base : Heap) (k : Nat) (C : Addr) (m : Str) (sp : Sp) : Prop where
  ex : ∃ (f : Addr) (fd : FuncData) (ps : List Str), Cls K C ∧ Meth K C m f ∧ FnOk P w K mg base (L2.CX P w) k f fd ps sp ∧ Binds K fd ps []
/-- the body's part, what is raised told -/
abbrev BodyX (P : Program) (w : World) (K : PySem.W.Frag) (mg : Str → Option Value) (base : Heap) (k : Nat) (N : List Str) (qual : Str) (body : List Stmt) (scope : Scope) (f : Addr) (sp : Sp) : Prop :=
  ∀ (cdv : Value) (A : Around) (outer : List Env) (s : Shared) (H : Hp) (vs : List V) (Q : VK) (E : XK), Room k (A.deeper (envOfC qual scope s.heap.objs.size f cdv)) → sp vs H Q E →
    Takes (cxOf (L2.CX P w) P w K mg base N qual scope f cdv A outer s H E) (fun cls d _ H' => E cls d H') → ∃ t, PSs (cxOf (L2.CX P w) P w K mg base N qual scope f cdv A outer s H E) body t ∧ t { nx := fun _ H' => Q .non H', rt := Q } (start N vs) H
section
variable {P : Program} {w : World} {K : PySem.W.Frag} {mg : Str → Option Value} {base : Heap} {x qual : Str} {params : Arguments} {body : List Stmt} {scope : Scope} {f C : Addr} {fd : FuncData} {N ps : List Str} {k : Nat} {sp : Sp} {dvs : List V} {kws : List (Str × V)}
theorem fnx_of (F : FunD K x qual params body scope dvs kws f fd) (S : FnScope N ps scope) (len : ∀ vs H Q E, sp vs H Q E → vs.length = ps.length) (hb : BodyX P w K mg base k N qual body scope f sp) : FnOk P w K mg base (L2.CX P w) (k + 1) f fd ps sp :=
  F.ok S len fun cdv A outer s H vs Q E hr hsp => hb cdv A outer s H vs Q E hr hsp (takes_of rfl rfl rfl rfl)
theorem calx_of (F : FunD K x x params body scope [] [] f fd) (hm : mg x = some (.ref f)) (b : Binds K fd ps []) (S : FnScope N ps scope) (len : ∀ vs H Q E, sp vs H Q E → vs.length = ps.length) (hb : BodyX P w K mg base k N x body scope f sp) : CalX P w K mg base (k + 1) x sp :=
  ⟨f, fd, ps, fnx_of F S len hb, hm, F.kp, b⟩
theorem metx_of (F : FunD K x qual params body scope dvs kws f fd) (c : Cls K C) (me : Meth K C x f) (b : Binds K fd ps []) (S : FnScope N ps scope) (len : ∀ vs H Q E, sp vs H Q E → vs.length = ps.length) (hb : BodyX P w K mg base k N qual body scope f sp) : MetX P w K mg base (k + 1) C x sp :=
  ⟨f, fd, ps, c, me, fnx_of F S len hb, b⟩
end
section
variable {X : Cx} {k j : Nat} {C : Addr} {x m : Str} {sp : Sp} {p pos apos : Pos} {e o : Expr} {es : List Expr} {ta : TE} {t : TA} {W : WX} {E : XK}
theorem pe_cx (c : CalX X.prog X.w X.K X.mg X.base k x sp) (tk : Takes X W) (hW : ∀ cls d σ H, E cls d H → W cls d σ H) (hr : Room j X.A) (hk : k ≤ j) (hg : Gl X x) (ha : PA X (e :: es) t) (form : Flat X x e es pos := by exact ⟨by decide, rfl, rfl⟩) :
    PE X (.Call (.Name x p) (e :: es) [] pos) (tCall sp [] E t) :=
  let ⟨_, _, _, F, at_, kept, b⟩ := c.ex
  pe_call F (hr.mono hk) hg at_ kept b .nil (passes_call tk hW) ha form.dbg form.first form.plain
theorem pe_mx {pl : Sem Bool} (c : MetX X.prog X.w X.K X.mg X.base k C m sp) (tk : Takes X W) (hW : ∀ cls d σ H, E cls d H → W cls d σ H) (hr : Room j X.A) (hk : k ≤ j) (he : PE X o ta) (ha : PA X (e :: es) t) (form : MeForm X pl o e es m apos pos := by exact ⟨rfl, rfl, rfl⟩) :
    PE X (.Call (.Attribute o m apos) (e :: es) [] pos) (tMeth C m sp [] E ta t) :=
  let ⟨_, _, _, cls, me, F, b⟩ := c.ex
  pe_meth (pl := pl) he cls me F (hr.mono hk) b .nil (passes_call tk hW) ha form.first form.plain form.steps
end
/-! ### the head: facts, one more Bool, the tables of some defs -/
def frY (g : Addr → Option Obj) (n : Nat) : PySem.W.Frag := He.frT g (He.asD g n ++ [cStatics])
structure SaysY (fa : List He.Fa) (fn : List He.DefD) (tf : List He.Defn) (ex : PySem.W.Frag → Bool) (h : Heap) (K : PySem.W.Frag) : Prop where
  d : He.SaysD fa fn K
  more : ex K = true
  code : ∀ p ∈ tf, PySem.W.codeHdIn K (He.cT K p).1 (He.cT K p).2 = true
  out : ∀ p ∈ tf, K.lookup (He.cT K p).2 = none
  empty : ∀ p ∈ tf, h.get? (He.cT K p).2 = some { cls := .none, data := .fields #[] }
abbrev AlY : Type := He.AlD × Bool
def obsY (n : Nat) (fa : List He.Fa) (fn : List He.DefD) (tf : List He.Defn) (ex : PySem.W.Frag → Bool) (g : Addr → Option Obj) : AlY := (He.obsD fa fn (frY g n), ex (frY g n) && He.tabsB g tf (frY g n))
theorem saysY_of {n : Nat} {fa : List He.Fa} {fn : List He.DefD} {tf : List He.Defn} {ex : PySem.W.Frag → Bool} {h : Heap} (e : obsY n fa fn tf ex h.get? = (He.valD fn, true)) : SaysY fa fn tf ex h (frY h.get? n) := by
  have e1 : He.obsD fa fn (frY h.get? n) = He.valD fn := congrArg (fun z : AlY => z.1) e
  have e2 : (ex (frY h.get? n) && He.tabsB h.get? tf (frY h.get? n)) = true := congrArg (fun z : AlY => z.2) e
  obtain ⟨h1, h2⟩ := Bool.and_eq_true_iff.mp e2
  have tab : ∀ p ∈ tf, PySem.W.codeHdIn (frY h.get? n) (He.cT (frY h.get? n) p).1 (He.cT (frY h.get? n) p).2 = true ∧ ∃ o, h.get? (He.cT (frY h.get? n) p).2 = some o ∧ He.emptyTab o = true := fun p hp => by
    obtain ⟨h3, h4⟩ := Bool.and_eq_true_iff.mp (List.all_eq_true.mp h2 p hp)
    refine ⟨h3, ?_⟩
    cases q : h.get? (He.cT (frY h.get? n) p).2 with
    | none => rw [q] at h4; cases h4
    | some o => rw [q] at h4; exact ⟨o, rfl, h4⟩
  refine ⟨e1, h1, fun p hp => (tab p hp).1, fun p hp => ?_, fun p hp => ?_⟩
  · obtain ⟨_, o, q, z⟩ := tab p hp
    exact He.frT_none q z
  · obtain ⟨_, o, q, z⟩ := tab p hp
    rw [q]
    exact congrArg some (He.emptyTab_eq z)
def hookY (n : Nat) (fa : List He.Fa) (fn : List He.DefD) (tf : List He.Defn) (ex : PySem.W.Frag → Bool) : PySem.W.Hook where
  α := AlY
  obs := fun s => obsY n fa fn tf ex s.heap.get?
  val := fun _ => (He.valD fn, true)
  says := fun _ h => ∃ K : PySem.W.Frag, K.In h ∧ SaysY fa fn tf ex h K
  of := fun _ _ e => ⟨_, He.frT_in, saysY_of e⟩
  keeps := fun _ _ _ ⟨K, hK, c⟩ k => ⟨K, hK.keeps k, c.d, c.more, c.code, c.out, fun p hp => k _ _ (c.empty p hp)⟩
theorem obsY_eq {n : Nat} {fa : List He.Fa} {fn : List He.DefD} {tf : List He.Defn} {ex : PySem.W.Frag → Bool} {g : Addr → Option Obj} {s : Shared} (h : ∀ a, g a = s.heap.get? a) : obsY n fa fn tf ex g = (hookY n fa fn tf ex).obs s := by
  have e : g = s.heap.get? := funext h
  rw [e]
  rfl
def clsDefB (K : PySem.W.Frag) (C f : Addr) (m : Str) : Bool := PySem.W.readsIn K C (.type "type") && (decide (PySem.W.specialIn K (.ref C) "__getattribute__" = some (some (.builtin "type.__getattribute__"))) && (match PySem.W.findCls K (.ref C) (.type "type") m with
  | some (.val (.ref g)) => decide (g = f)
  | _ => false))
theorem clsDefB_ok {K : PySem.W.Frag} {C f : Addr} {m : Str} (h : clsDefB K C f m = true) : ClsDef K C f m := by
  obtain ⟨h1, h⟩ := Bool.and_eq_true_iff.mp h
  obtain ⟨h2, h3⟩ := Bool.and_eq_true_iff.mp h
  refine ⟨h1, of_decide_eq_true h2, ?_⟩
  split at h3
  · rename_i g e
    rw [e, of_decide_eq_true h3]
  · cases h3
/-- the __init__ of an own class -/
structure InitAt (K : PySem.W.Frag) (C f : Addr) : Prop where
  find : PySem.W.findIn K (.ref C) "__init__" = some (some (.ref f))
  fn : PySem.W.typeIn K (.ref f) = some (.type "function")
def initB (K : PySem.W.Frag) (C : Addr) : Bool := decide (PySem.W.findIn K (.ref C) "__init__" = some (some (.ref (He.ma K C "__init__")))) && decide (PySem.W.typeIn K (.ref (He.ma K C "__init__")) = some (.type "function"))
theorem initB_ok {K : PySem.W.Frag} {C : Addr} (h : initB K C = true) : InitAt K C (He.ma K C "__init__") :=
  let ⟨h1, h2⟩ := Bool.and_eq_true_iff.mp h
  ⟨of_decide_eq_true h1, of_decide_eq_true h2⟩
/-- a def with defaults, all parameters handed in -/
theorem bindsD {K : PySem.W.Frag} {x qual : Str} {params : Arguments} {body : List Stmt} {scope : Scope} {dvs : List V} {kws : List (Str × V)} {f : Addr} {fd : FuncData} {ps : List Str} (F : FunD K x qual params body scope dvs kws f fd)
    (h : ∀ (dV kV doc pm : Value) (an : Option Addr) (cdv ct : Value) (us : List Value), us.length = ps.length → bindArgs (PySem.W.fnOf x qual params body scope dV kV doc pm an cdv ct) ⟨us, []⟩ = pure (ps.zip us)) : Binds K fd ps [] := by
  obtain ⟨_, _, dV, kV, doc, pm, an, cdv, ct, _, rfl, _⟩ := F.ex
  exact .all (h dV kV doc pm an cdv ct)
def viB (K : PySem.W.Frag) (b i : String) : Bool := match PySem.W.findCls K (.type b) (.type "type") "__init__" with
  | some (.val (.builtin j)) => decide (j = i)
  | _ => false
theorem viB_ok {K : PySem.W.Frag} {b i : String} (h : viB K b i = true) : PySem.W.findCls K (.type b) (.type "type") "__init__" = some (.val (.builtin i)) := by
  unfold viB at h
  split at h
  · rename_i j e
    rw [e, of_decide_eq_true h]
  · cases h
end Tw

set_option maxHeartbeats 4000000
/-! own exception classes over any of some built-in ones: made, stored into, raised. The class is read off by the library's excInitIn, excOver, hasDictIn; the store goes by osa_openX. -/
namespace Tw
open PySem PySem.Spec PyProof.Rows L2
/-- a built-in class of exceptions: its name, its makers, the line of its elders -/
structure Bs where
  name : String
  newId : String
  initId : String
  tail : List Value
structure BsOk (b : Bs) : Prop where
  fac : ExcBaseFacts b.name b.newId b.initId b.tail
  sto : StoreFacts b.name b.tail "object.__setattr__" "object"
  typ : typeOf (.type b.name) = pure (.type "type")
  stub : Manifest.isStub b.name = false
abbrev bVE : Bs := ⟨"ValueError", "ValueError.__new__", "ValueError.__init__", [.type "ValueError", .type "Exception", .type "BaseException", .type "object"]⟩
abbrev bLE : Bs := ⟨"LookupError", "LookupError.__new__", "LookupError.__init__", [.type "LookupError", .type "Exception", .type "BaseException", .type "object"]⟩
abbrev bRE : Bs := ⟨"RuntimeError", "RuntimeError.__new__", "RuntimeError.__init__", [.type "RuntimeError", .type "Exception", .type "BaseException", .type "object"]⟩
abbrev bIE : Bs := ⟨"IndexError", "IndexError.__new__", "IndexError.__init__", [.type "IndexError", .type "LookupError", .type "Exception", .type "BaseException", .type "object"]⟩
theorem bb_ValueError : bootBuiltins "ValueError" = some (.type "ValueError") := by decide +kernel
theorem bb_LookupError : bootBuiltins "LookupError" = some (.type "LookupError") := by decide +kernel
theorem bb_RuntimeError : bootBuiltins "RuntimeError" = some (.type "RuntimeError") := by decide +kernel
theorem bb_IndexError : bootBuiltins "IndexError" = some (.type "IndexError") := by decide +kernel
theorem bVE_ok : BsOk bVE := ⟨F.excBase_ValueError, F.store_ValueError, by kernel_rfl, by decide +kernel⟩
theorem bIE_ok : BsOk bIE := ⟨F.excBase_IndexError, F.store_IndexError, by kernel_rfl, by decide +kernel⟩
theorem bLE_ok : BsOk bLE := ⟨F.excBase_LookupError, F.store_LookupError, by kernel_rfl, by decide +kernel⟩
theorem bRE_ok : BsOk bRE := ⟨F.excBase_RuntimeError, F.store_RuntimeError, by kernel_rfl, by decide +kernel⟩
/-- what the written part says of an own class over b -/
structure OxC (b : Bs) (K : PySem.W.Frag) (C : Addr) : Prop where
  ok : BsOk b
  makes : PySem.W.excInitIn K C b.tail b.newId = true
  over : PySem.W.excOver K C b.tail = true
  dict : PySem.W.hasDictIn K C = true
  store : PySem.W.findIn K (.ref C) "__setattr__" = some (some (.builtin "object.__setattr__"))
  exc : PySem.W.subIn K (.ref C) (.type "BaseException") = some true
  typ : PySem.W.typeIn K (.ref C) = some (.type "type")
  keep : PySem.W.keepIn K (.ref C) = true
def oxB (b : Bs) (K : PySem.W.Frag) (C : Addr) : Bool :=
  [PySem.W.excInitIn K C b.tail b.newId, PySem.W.excOver K C b.tail, PySem.W.hasDictIn K C, decide (PySem.W.findIn K (.ref C) "__setattr__" = some (some (.builtin "object.__setattr__"))), decide (PySem.W.subIn K (.ref C) (.type "BaseException") = some true), decide (PySem.W.typeIn K (.ref C) = some (.type "type")), PySem.W.keepIn K (.ref C)].all id
theorem oxB_ok {b : Bs} (okb : BsOk b) {K : PySem.W.Frag} {C : Addr} (h : oxB b K C = true) : OxC b K C := by
  simp only [oxB, List.all_cons, List.all_nil, id, Bool.and_true, Bool.and_eq_true, decide_eq_true_eq] at h
  obtain ⟨q1, q2, q3, q4, q5, q6, q7⟩ := h
  exact ⟨okb, q1, q2, q3, q4, q5, q6, q7⟩
section
variable {b : Bs} {X : Cx} {pins : List (Addr × Obj)} {σ : L2.St} {H : Hp} {s : Shared} {a C dx : Addr} {f : Str} {y : V} {u : Value} {fs : List (Str × V)} {E : Value → Shared → Prop} {A : Around}
theorem taker0 {K : PySem.W.Frag} (no : PySem.W.findIn K (.ref C) f = some none) : PySem.W.takerIn K C f = some none := by
  unfold PySem.W.takerIn
  rw [no]
  rfl
/-- the first field: a dict is laid, then the exception is made to hold it -/
theorem oxs_first {Q : Unit → Shared → Prop} (T : OxC b X.K C) (I : Inv X pins σ H s) (e : H a = some (exo a C none)) (no : PySem.W.findIn X.K (.ref C) f = some none) (ry : RelV y u)
    (h : ∀ dx s', H dx = none → dx ≠ a → Inv X pins σ (upd (upd H dx (exd dx [(f, y)])) a (exo a C (some dx))) s' → Q () s') : wpAny (model X.prog X.w) A (setAttr (.ref a) f u) Q E s := by
  obtain ⟨t1, old⟩ := exo_at I.hok e
  obtain ⟨hp, g, d, t, os⟩ := s
  obtain ⟨cd, hc, hd⟩ := PySem.W.any_some T.dict
  have ne : a ≠ hp.objs.size := Nat.ne_of_lt (Heap.lt_size old)
  refine PySem.W.set_plain (od := none) I.kIn ⟨old, rfl, rfl, trivial⟩ T.store (PySem.W.osa_openX (od := none) T.ok.sto I.kIn ⟨old, rfl, rfl, trivial⟩ T.over (taker0 no) fun _ => ?_)
  refine wpAny_bind (wpAny_pure (wpAny_bind (PySem.W.instanceDict_exc old (PySem.W.looks_clsIn I.kIn hc) hd ?_)))
  have held : ((hp.push (PySem.W.dictOf [] 0)).update a fun o => { o with dict := some hp.objs.size }).get? a = some { cls := .ref C, dict := some hp.objs.size, data := .fields #[.ref t1, .none, .none, .none, .bool false, .none] } := Heap.get?_update_self _ (Heap.get?_push_of_some _ old) rfl
  refine HandSPX.store_in_new ⟨_, #[], _, (Heap.get?_update_ne _ _ _ _ ne.symm).trans (Heap.get?_push_at rfl rfl), rfl, fun e he => absurd he (by simp), fun _ => rfl⟩ fun h' tk' hn hs => ?_
  have atA : h'.get? a = _ := (hs.2 a ne).trans held
  -- the heap between: the dict filled, the exception not yet touched
  have back : (h'.update a fun _ => { cls := .ref C, dict := none, data := .fields #[.ref t1, .none, .none, .none, .bool false, .none] }).get? a = some { cls := .ref C, dict := none, data := .fields #[.ref t1, .none, .none, .none, .bool false, .none] } := Heap.get?_update_self _ atA rfl
  have mid := I.laid (h' := h'.update a fun _ => { cls := .ref C, dict := none, data := .fields #[.ref t1, .none, .none, .none, .bool false, .none] }) (t' := tk') (o := exd hp.objs.size [(f, y)]) (fun c o q => ?_) (Nat.le_refl _)
    (exd_ok (hn.at fun o q => (Heap.get?_update_ne _ _ _ _ ne.symm).trans q) (relO_put (fs := []) ry fun _ => True.intro))
  · refine h hp.objs.size _ (I.hok.fresh (Nat.le_refl _)) ne.symm (mid.write (h' := h') (t' := tk') (x := a) (e := a) (o := exo a C (some hp.objs.size)) (by rw [upd_ne ne, e]; exact True.intro) (.inl rfl) (fun c o hc q => ?_) ⟨_, atA⟩ (exo_ok atA))
    exact (Heap.get?_update_ne _ _ _ _ hc).symm.trans q
  · by_cases hca : c = a
    · subst hca
      rw [back]
      exact old.symm.trans q
    · rw [Heap.get?_update_ne _ _ _ _ hca, hs.2 c (Nat.ne_of_lt (Heap.lt_size q)), Heap.get?_update_ne _ _ _ _ hca]
      exact Heap.get?_push_of_some _ q
/-- a further field -/
theorem oxs_more {Q : Unit → Shared → Prop} (T : OxC b X.K C) (I : Inv X pins σ H s) (e : H a = some (exo a C (some dx))) (ed : H dx = some (exd dx fs)) (hl : fs.length ≤ 900) (no : PySem.W.findIn X.K (.ref C) f = some none) (ry : RelV y u) (h : ∀ s', Inv X pins σ (upd H dx (exd dx ((f, y) :: fs))) s' → Q () s') :
    wpAny (model X.prog X.w) A (setAttr (.ref a) f u) Q E s := by
  obtain ⟨t1, old⟩ := exo_at I.hok e
  obtain ⟨m0, ns, rel⟩ := exd_at I.hok ed
  obtain ⟨hp, g, d, t, os⟩ := s
  obtain ⟨cd, hc, hd⟩ := PySem.W.any_some T.dict
  obtain ⟨od, _, _, atD, _⟩ := ns.count (within_of rel)
  refine PySem.W.set_plain (od := some od) I.kIn ⟨old, rfl, rfl, atD⟩ T.store (PySem.W.osa_openX (od := some od) T.ok.sto I.kIn ⟨old, rfl, rfl, atD⟩ T.over (taker0 no) fun _ => ?_)
  refine wpAny_bind (wpAny_pure (wpAny_bind (wpAny_bind (wpAny_loadPart old (wpAny_bind ((PySem.W.looks_clsIn I.kIn hc).at ?_))))))
  rw [hd]
  refine wpAny_pure (a := some dx) (PySem.OEX.store_in_old ns (within_of rel) (by rw [List.length_map]; omega) fun h' tk' hn hs => ?_)
  obtain ⟨_, _, _, there, _⟩ := id hn
  exact h _ (I.write (t' := tk') (x := dx) (e := dx) (o := exd dx ((f, y) :: fs)) (by rw [ed]; exact True.intro) (.inl rfl) (fun c o hc q => (hs.2 c hc).trans q) ⟨_, there⟩ (exd_ok hn (relO_put ry rel)))
theorem upd_idem {o : HO} (e : H a = some o) : upd H a o = H := funext fun c => by
  by_cases hc : c = a
  · subst hc
    exact upd_same.trans e.symm
  · exact upd_ne hc
/-- B.__init__ of the built-in class: the exception keeps its shape -/
theorem ox_init {us : List Value} {Q : Value → Shared → Prop} (T : OxC b X.K C) (I : Inv X pins σ H s) (e : H a = some (exo a C none)) (hl : us.length ≤ sizeLine) (h : ∀ s', Inv X pins σ H s' → Q .none s') : wpAny (model X.prog X.w) A (call (.builtin b.initId) (.ref a :: us)) Q E s := by
  obtain ⟨_, _, _, _, _, _, _, _, _, _, _, _, _, _, _, _, cls, line⟩ := PySem.W.excInit_of I.kIn T.makes
  obtain ⟨t1, old⟩ := exo_at I.hok e
  obtain ⟨hp, g, d, t, os⟩ := s
  refine wpAny_call (PySem.HandSPX.init_base T.ok.fac line cls old hl fun h' t2 k new => h _ ?_)
  have J := I.write (t' := t) (x := a) (e := a) (o := exo a C none) (by rw [e]; exact True.intro) (.inl rfl) k ⟨_, new⟩ (exo_ok new)
  rwa [upd_idem e] at J
end
/-- B.__init__(self, ..), B the built-in one -/
def tBi (b : Bs) (K : PySem.W.Frag) (ta : TA) : TE := fun σ H Q => ta σ H fun vs H1 => ∃ (a C : Addr) (ws : List V), vs = .ref a :: ws ∧ ws.length ≤ 1000 ∧ OxC b K C ∧ H1 a = some (exo a C none) ∧ Q .non H1
/-- self.f = e -/
def tOx (b : Bs) (K : PySem.W.Frag) (f : Str) (to te : TE) : TS := fun D σ H => te σ H fun y H1 => to σ H1 fun x H2 => ∃ a C : Addr, x = .ref a ∧ OxC b K C ∧ PySem.W.findIn K (.ref C) f = some none ∧
  ((H2 a = some (exo a C none) ∧ ∀ dx, H2 dx = none → dx ≠ a → D.nx σ (upd (upd H2 dx (exd dx [(f, y)])) a (exo a C (some dx)))) ∨ ∃ (dx : Addr) (fs : List (Str × V)), H2 a = some (exo a C (some dx)) ∧ H2 dx = some (exd dx fs) ∧ fs.length ≤ 900 ∧ D.nx σ (upd H2 dx (exd dx ((f, y) :: fs))))
section
variable {b : Bs} {X : Cx} {o e : Expr} {es : List Expr} {to te : TE} {ta : TA} {f x : Str} {p p' p1 p2 pos : Pos} {pl : Sem Bool}
theorem pe_binit (okb : BsOk b) (hv : bootBuiltins x = some (.type b.name)) (hg : Gl X x) (hm : X.mg x = none) (vV : PySem.W.findCls X.K (.type b.name) (.type "type") "__init__" = some (.val (.builtin b.initId))) (hh : PySem.W.handedIn (.builtin b.initId) = true) (ha : PA X (e :: es) ta)
    (form : MeForm X pl (.Name x p1) e es "__init__" p2 pos := by exact ⟨rfl, rfl, rfl⟩) (hn : x ≠ "__name__" := by decide) (hdb : (x == ("__debug__" : Str)) = false := by decide) :
    PE X (.Call (.Attribute (.Name x p1) "__init__" p2) (e :: es) [] pos) (tBi b X.K ta) := by
  constructor
  intro pins s σ H Q I h
  obtain ⟨_, fr⟩ := I.fr
  refine PySem.W.methodCall_KW (pl := pl) (ld_blt I hg hm hv (PySem.W.method_type fr I.ok.mod.kin okb.typ okb.stub vV hh ?_) hn hdb) form.steps
  refine PyProof.Rows.callWith_method1 (thn (ha.run pos pins _ σ H _ (I.tok _) h) ?_) form.first form.plain
  rintro _ s1 ⟨_, H1, I1, rel, a, C, ws, rfl, hl, T, ea, q⟩
  cases rel with
  | cons ra rr =>
    cases (show _ = Value.ref a from ra)
    exact ox_init T I1 ea (Nat.le_trans (Nat.le_of_eq (Paired.length rr).symm) (by rw [sizeLine_eq]; omega)) fun s' J => ⟨.non, H1, J, rfl, q⟩
theorem ps_ox (ho : PE X o to) (he : PE X e te) (hs : swapsWith e (some (.Attribute o f p')) pos.line X.env = pure false := by rfl) : PS X (.Assign [.Attribute o f p'] e pos) (tOx b X.K f to te) := by
  constructor
  intro pins s σ H D I h
  refine plainObj_wpAny_Assign_Attribute (thn (he.run pins s σ H _ I h) ?_) hs
  rintro v s1 ⟨y, H1, I1, ry, q1⟩
  refine thn (ho.run pins s1 σ H1 _ I1 q1) ?_
  rintro _ s2 ⟨_, H2, I2, ro, a, C, rfl, T, no, new | more⟩ <;> cases (show _ = Value.ref a from ro)
  · exact oxs_first T I2 new.1 no ry fun dx s' n ne J => ⟨σ, _, J, new.2 dx n ne⟩
  · obtain ⟨dx, fs, ea, ed, hl, q⟩ := more
    exact oxs_more T I2 ea ed hl no ry fun s' J => ⟨σ, _, J, q⟩
/-- an own exception class over b that is made by its name -/
structure MkB (b : Bs) (P : Program) (w : World) (K : PySem.W.Frag) (mg : Str → Option Value) (base : Heap) (k : Nat) (x : Str) (C : Addr) (sp : Sp) : Prop where
  ex : ∃ (f : Addr) (fd : FuncData) (ps : List Str), OxC b K C ∧ InitAt K C f ∧ FnOk P w K mg base CX0 k f fd ps sp ∧ mg x = some (.ref C) ∧ Binds K fd ps []
theorem pmk_b {k j : Nat} {C : Addr} {sp : Sp} (c : MkB b X.prog X.w X.K X.mg X.base k x C sp) (hr : Room j X.A) (hk : k + 1 ≤ j) (hg : Gl X x) (ha : PA X (e :: es) ta) (form : Flat X x e es pos := by exact ⟨by decide, rfl, rfl⟩) : PMk X (.Call (.Name x p) (e :: es) [] pos) (tMkO C sp [] ta) := by
  intro pins s σ H Q I h
  obtain ⟨init, fd, ps, T, at_, F0, hm, bnd⟩ := c.ex
  have F := F0.raw bnd .nil
  refine wpAny_Call_Name_kw (ld_glob I hg hm (PySem.W.callWith_K (h₀ := X.base) I.ok.mod.kin T.keep (thn (ha.run pos pins s σ H _ I h) ?_) form.first form.plain) form.dbg)
  rintro us ⟨hp, g, d, t, os⟩ ⟨vs, H1, I1, rel, few, q⟩
  refine ⟨I1.kIn, ?_⟩
  obtain ⟨_, _, _, _, _, _, _, _, _, _, _, _, _, _, _, _, cls, line⟩ := PySem.W.excInit_of I1.kIn T.makes
  -- the args' tuple and the exception lie behind one another
  have next : hp.objs.size ≤ hp.objs.size + 1 := Nat.le_succ _
  have kept : ∀ c o, hp.get? c = some o → ((hp.push (PySem.W.kdv_tup us)).push (PySem.HandSPX.excO C hp.objs.size)).get? c = some o := fun c o z => Heap.get?_push_of_some _ (Heap.get?_push_of_some _ z)
  have I2 := I1.laid (h' := (hp.push (PySem.W.kdv_tup us)).push (PySem.HandSPX.excO C hp.objs.size)) (t' := t) (o := exo (hp.objs.size + 1) C none) kept next (exo_ok (t1 := hp.objs.size) (by heap_get))
  have fits : us.length ≤ sizeLine := Nat.le_trans (Nat.le_of_eq (Paired.length rel).symm) (by rw [sizeLine_eq]; omega)
  have ran := F _ X.stack _ _ (.ref (hp.objs.size + 1) :: us) (.ref (hp.objs.size + 1) :: vs) _ E0 ((hr.mono hk).make C us []) (I2.env0.make C us []) (.cons rfl rel) (q _ (I1.hok.fresh next))
  refine wpAny_call (PySem.HandSPX.call_own T.ok.fac line cls (PySem.W.looks_findIn I1.kIn at_.find) (fun self => PySem.W.bind_fn I1.kIn self at_.fn) fits (codeAny_mono ran ?_))
  rintro (_ | (_ | _ | _ | _)) ⟨h2, g2, d2, t2, os2⟩ z <;> first
    | exact False.elim z
    | (obtain ⟨_, H2, os', bare, un, hok, rv, rfl, dd, fs, ea, ed, new, q2⟩ := z
       exact ⟨rv, mk_end (raises_own T.exc T.typ) I1 next kept un hok os' bare ea ed new q2⟩)
end
end Tw

set_option maxHeartbeats 4000000
namespace Tw
open PySem PySem.Spec PyProof.Rows L2

def top (i : Nat) : Stmt := PySem.Challenge.pw_tidewaiter_k06_webs_alike.main.body.getD i (.Pass ⟨0, 0, 0, 0⟩)
abbrev s_is_number : Stmt := top 4
abbrev s_is_whole : Stmt := top 5
abbrev s_is_one_of : Stmt := top 6
abbrev s_is_name : Stmt := top 7
abbrev s_TideError_UinitU : Stmt := inClass (top 9) 0
abbrev s_BadBy_UinitU : Stmt := inClass (top 10) 0
abbrev s_Used_UinitU : Stmt := inClass (top 17) 0
abbrev s_Missing_UinitU : Stmt := inClass (top 24) 0
abbrev s_NoPoint_UinitU : Stmt := inClass (top 26) 0
abbrev s_NoTie_UinitU : Stmt := inClass (top 28) 0
abbrev s_Web_UinitU : Stmt := inClass (top 49) 0
abbrev s_Web_with_by : Stmt := inClass (top 49) 1
abbrev s_Web_with_moment : Stmt := inClass (top 49) 2
abbrev s_Web_with_span : Stmt := inClass (top 49) 3
abbrev s_Web_with_tie : Stmt := inClass (top 49) 4
abbrev s_Web_without : Stmt := inClass (top 49) 5
abbrev s_Web_moments : Stmt := inClass (top 49) 7
abbrev s_Web_spans : Stmt := inClass (top 49) 8
abbrev s_Web_ties : Stmt := inClass (top 49) 9
abbrev s_Web_points : Stmt := inClass (top 49) 10
abbrev s_Web_UeqU : Stmt := inClass (top 49) 11
abbrev s_Web_UlenU : Stmt := inClass (top 49) 12
abbrev s_Web_UreprU : Stmt := inClass (top 49) 13
abbrev s_woven : Stmt := top 50
abbrev s_is_begin : Stmt := top 51
abbrev s_are_lengths : Stmt := top 52
abbrev s_is_lateness : Stmt := top 53
abbrev s_is_used : Stmt := top 54
abbrev s_are_bounds : Stmt := top 55
abbrev s_need_free_name : Stmt := top 56
abbrev s_need_point : Stmt := top 57
abbrev s__law_flow : Stmt := top 59
abbrev s__law_draw : Stmt := top 60
abbrev s__law_pick : Stmt := top 61
abbrev s__law_same : Stmt := top 62
abbrev s__law_names : Stmt := top 63
abbrev s__law_model : Stmt := top 64
abbrev s__law_points : Stmt := top 65
abbrev s__law_web : Stmt := top 66
abbrev s__law_wind : Stmt := top 67
abbrev s__law_bond : Stmt := top 68
abbrev s__law_drawn : Stmt := top 69
abbrev s__law_stands : Stmt := top 70
abbrev s__law_copy : Stmt := top 71
abbrev s__law_strange : Stmt := top 72
abbrev s__law_field : Stmt := top 73
abbrev s_law : Stmt := top 74
abbrev N_is_number : List Str := ["thing"]
theorem sc_is_number : FnScope N_is_number ["thing"] (defScope s_is_number) := ⟨rfl, rfl, rfl, by decide +kernel, rfl, by decide +kernel, by decide +kernel⟩
abbrev N_is_whole : List Str := ["thing", "least", "most"]
theorem sc_is_whole : FnScope N_is_whole ["thing", "least", "most"] (defScope s_is_whole) := ⟨rfl, rfl, rfl, by decide +kernel, rfl, by decide +kernel, by decide +kernel⟩
abbrev N_is_one_of : List Str := ["thing", "names"]
theorem sc_is_one_of : FnScope N_is_one_of ["thing", "names"] (defScope s_is_one_of) := ⟨rfl, rfl, rfl, by decide +kernel, rfl, by decide +kernel, by decide +kernel⟩
abbrev N_is_name : List Str := ["thing", "letter"]
theorem sc_is_name : FnScope N_is_name ["thing"] (defScope s_is_name) := ⟨rfl, rfl, rfl, by decide +kernel, rfl, by decide +kernel, by decide +kernel⟩
abbrev N_TideError_UinitU : List Str := ["self", "word", "why"]
theorem sc_TideError_UinitU : FnScope N_TideError_UinitU ["self", "word", "why"] (defScope s_TideError_UinitU) := ⟨rfl, rfl, rfl, by decide +kernel, rfl, by decide +kernel, by decide +kernel⟩
abbrev N_BadBy_UinitU : List Str := ["self", "by"]
theorem sc_BadBy_UinitU : FnScope N_BadBy_UinitU ["self", "by"] (defScope s_BadBy_UinitU) := ⟨rfl, rfl, rfl, by decide +kernel, rfl, by decide +kernel, by decide +kernel⟩
abbrev N_Used_UinitU : List Str := ["self", "name"]
theorem sc_Used_UinitU : FnScope N_Used_UinitU ["self", "name"] (defScope s_Used_UinitU) := ⟨rfl, rfl, rfl, by decide +kernel, rfl, by decide +kernel, by decide +kernel⟩
abbrev N_Missing_UinitU : List Str := ["self", "word", "why"]
theorem sc_Missing_UinitU : FnScope N_Missing_UinitU ["self", "word", "why"] (defScope s_Missing_UinitU) := ⟨rfl, rfl, rfl, by decide +kernel, rfl, by decide +kernel, by decide +kernel⟩
abbrev N_NoPoint_UinitU : List Str := ["self", "name"]
theorem sc_NoPoint_UinitU : FnScope N_NoPoint_UinitU ["self", "name"] (defScope s_NoPoint_UinitU) := ⟨rfl, rfl, rfl, by decide +kernel, rfl, by decide +kernel, by decide +kernel⟩
abbrev N_NoTie_UinitU : List Str := ["self", "at"]
theorem sc_NoTie_UinitU : FnScope N_NoTie_UinitU ["self", "at"] (defScope s_NoTie_UinitU) := ⟨rfl, rfl, rfl, by decide +kernel, rfl, by decide +kernel, by decide +kernel⟩
abbrev N_Web_UinitU : List Str := ["self", "by"]
theorem sc_Web_UinitU : FnScope N_Web_UinitU ["self", "by"] (defScope s_Web_UinitU) := ⟨rfl, rfl, rfl, by decide +kernel, rfl, by decide +kernel, by decide +kernel⟩
abbrev N_Web_with_by : List Str := ["self", "by"]
theorem sc_Web_with_by : FnScope N_Web_with_by ["self", "by"] (defScope s_Web_with_by) := ⟨rfl, rfl, rfl, by decide +kernel, rfl, by decide +kernel, by decide +kernel⟩
abbrev N_Web_with_moment : List Str := ["self", "name"]
theorem sc_Web_with_moment : FnScope N_Web_with_moment ["self", "name"] (defScope s_Web_with_moment) := ⟨rfl, rfl, rfl, by decide +kernel, rfl, by decide +kernel, by decide +kernel⟩
abbrev N_Web_with_span : List Str := ["self", "end", "begin", "low", "high", "late", "span"]
theorem sc_Web_with_span : FnScope N_Web_with_span ["self", "end", "begin", "low", "high", "late"] (defScope s_Web_with_span) := ⟨rfl, rfl, rfl, by decide +kernel, rfl, by decide +kernel, by decide +kernel⟩
abbrev N_Web_with_tie : List Str := ["self", "one", "other", "least", "most", "tie"]
theorem sc_Web_with_tie : FnScope N_Web_with_tie ["self", "one", "other", "least", "most"] (defScope s_Web_with_tie) := ⟨rfl, rfl, rfl, by decide +kernel, rfl, by decide +kernel, by decide +kernel⟩
abbrev N_Web_without : List Str := ["self", "name", "moments", "spans", "moment", "span"]
theorem sc_Web_without : FnScope N_Web_without ["self", "name"] (defScope s_Web_without) := ⟨rfl, rfl, rfl, by decide +kernel, rfl, by decide +kernel, by decide +kernel⟩
abbrev N_Web_moments : List Str := ["self"]
theorem sc_Web_moments : FnScope N_Web_moments ["self"] (defScope s_Web_moments) := ⟨rfl, rfl, rfl, by decide +kernel, rfl, by decide +kernel, by decide +kernel⟩
abbrev N_Web_spans : List Str := ["self"]
theorem sc_Web_spans : FnScope N_Web_spans ["self"] (defScope s_Web_spans) := ⟨rfl, rfl, rfl, by decide +kernel, rfl, by decide +kernel, by decide +kernel⟩
abbrev N_Web_ties : List Str := ["self"]
theorem sc_Web_ties : FnScope N_Web_ties ["self"] (defScope s_Web_ties) := ⟨rfl, rfl, rfl, by decide +kernel, rfl, by decide +kernel, by decide +kernel⟩
abbrev N_Web_points : List Str := ["self", "ends", "span"]
theorem sc_Web_points : FnScope N_Web_points ["self"] (defScope s_Web_points) := ⟨rfl, rfl, rfl, by decide +kernel, rfl, by decide +kernel, by decide +kernel⟩
abbrev N_Web_UeqU : List Str := ["self", "other"]
theorem sc_Web_UeqU : FnScope N_Web_UeqU ["self", "other"] (defScope s_Web_UeqU) := ⟨rfl, rfl, rfl, by decide +kernel, rfl, by decide +kernel, by decide +kernel⟩
abbrev N_Web_UlenU : List Str := ["self"]
theorem sc_Web_UlenU : FnScope N_Web_UlenU ["self"] (defScope s_Web_UlenU) := ⟨rfl, rfl, rfl, by decide +kernel, rfl, by decide +kernel, by decide +kernel⟩
abbrev N_Web_UreprU : List Str := ["self"]
theorem sc_Web_UreprU : FnScope N_Web_UreprU ["self"] (defScope s_Web_UreprU) := ⟨rfl, rfl, rfl, by decide +kernel, rfl, by decide +kernel, by decide +kernel⟩
abbrev N_woven : List Str := ["by", "moments", "spans", "ties", "web"]
theorem sc_woven : FnScope N_woven ["by", "moments", "spans", "ties"] (defScope s_woven) := ⟨rfl, rfl, rfl, by decide +kernel, rfl, by decide +kernel, by decide +kernel⟩
abbrev N_is_begin : List Str := ["web", "name"]
theorem sc_is_begin : FnScope N_is_begin ["web", "name"] (defScope s_is_begin) := ⟨rfl, rfl, rfl, by decide +kernel, rfl, by decide +kernel, by decide +kernel⟩
abbrev N_are_lengths : List Str := ["low", "high"]
theorem sc_are_lengths : FnScope N_are_lengths ["low", "high"] (defScope s_are_lengths) := ⟨rfl, rfl, rfl, by decide +kernel, rfl, by decide +kernel, by decide +kernel⟩
abbrev N_is_lateness : List Str := ["late"]
theorem sc_is_lateness : FnScope N_is_lateness ["late"] (defScope s_is_lateness) := ⟨rfl, rfl, rfl, by decide +kernel, rfl, by decide +kernel, by decide +kernel⟩
abbrev N_is_used : List Str := ["web", "name", "begins", "span", "tie"]
theorem sc_is_used : FnScope N_is_used ["web", "name"] (defScope s_is_used) := ⟨rfl, rfl, rfl, by decide +kernel, rfl, by decide +kernel, by decide +kernel⟩
abbrev N_are_bounds : List Str := ["least", "most", "told", "bound"]
theorem sc_are_bounds : FnScope N_are_bounds ["least", "most"] (defScope s_are_bounds) := ⟨rfl, rfl, rfl, by decide +kernel, rfl, by decide +kernel, by decide +kernel⟩
abbrev N_need_free_name : List Str := ["web", "name"]
theorem sc_need_free_name : FnScope N_need_free_name ["web", "name"] (defScope s_need_free_name) := ⟨rfl, rfl, rfl, by decide +kernel, rfl, by decide +kernel, by decide +kernel⟩
abbrev N_need_point : List Str := ["web", "name"]
theorem sc_need_point : FnScope N_need_point ["web", "name"] (defScope s_need_point) := ⟨rfl, rfl, rfl, by decide +kernel, rfl, by decide +kernel, by decide +kernel⟩
abbrev N__law_flow : List Str := ["_law_script"]
theorem sc__law_flow : FnScope N__law_flow ["_law_script"] (defScope s__law_flow) := ⟨rfl, rfl, rfl, by decide +kernel, rfl, by decide +kernel, by decide +kernel⟩
abbrev N__law_draw : List Str := ["_law_flow_here", "_law_size", "_law_found", "_law_cell", "_law_here"]
theorem sc__law_draw : FnScope N__law_draw ["_law_flow_here", "_law_size"] (defScope s__law_draw) := ⟨rfl, rfl, rfl, by decide +kernel, rfl, by decide +kernel, by decide +kernel⟩
abbrev N__law_pick : List Str := ["_law_flow_here", "_law_row"]
theorem sc__law_pick : FnScope N__law_pick ["_law_flow_here", "_law_row"] (defScope s__law_pick) := ⟨rfl, rfl, rfl, by decide +kernel, rfl, by decide +kernel, by decide +kernel⟩
abbrev N__law_same : List Str := ["_law_found", "_law_due", "_law_key", "_law_k"]
theorem sc__law_same : FnScope N__law_same ["_law_found", "_law_due"] (defScope s__law_same) := ⟨rfl, rfl, rfl, by decide +kernel, rfl, by decide +kernel, by decide +kernel⟩
abbrev N__law_names : List Str := ["_law_flow_here", "_law_many", "_law_pool", "_law_found", "_law_k"]
theorem sc__law_names : FnScope N__law_names ["_law_flow_here", "_law_many"] (defScope s__law_names) := ⟨rfl, rfl, rfl, by decide +kernel, rfl, by decide +kernel, by decide +kernel⟩
abbrev N__law_model : List Str := ["_law_last"]
theorem sc__law_model : FnScope N__law_model ["_law_last"] (defScope s__law_model) := ⟨rfl, rfl, rfl, by decide +kernel, rfl, by decide +kernel, by decide +kernel⟩
abbrev N__law_points : List Str := ["_law_m", "_law_wind_here"]
theorem sc__law_points : FnScope N__law_points ["_law_m"] (defScope s__law_points) := ⟨rfl, rfl, rfl, by decide +kernel, rfl, by decide +kernel, by decide +kernel⟩
abbrev N__law_web : List Str := ["_law_m", "_law_web_here", "_law_name", "_law_end", "_law_begin", "_law_low", "_law_high", "_law_hush", "_law_one", "_law_other", "_law_bot", "_law_top"]
theorem sc__law_web : FnScope N__law_web ["_law_m"] (defScope s__law_web) := ⟨rfl, rfl, rfl, by decide +kernel, rfl, by decide +kernel, by decide +kernel⟩
abbrev N__law_wind : List Str := ["_law_flow_here", "_law_end", "_law_own", "_law_far", "_law_low", "_law_high", "_law_hush"]
theorem sc__law_wind : FnScope N__law_wind ["_law_flow_here", "_law_end", "_law_own", "_law_far"] (defScope s__law_wind) := ⟨rfl, rfl, rfl, by decide +kernel, rfl, by decide +kernel, by decide +kernel⟩
abbrev N__law_bond : List Str := ["_law_flow_here", "_law_points_here", "_law_far", "_law_rest", "_law_one", "_law_other", "_law_low", "_law_high", "_law_kind"]
theorem sc__law_bond : FnScope N__law_bond ["_law_flow_here", "_law_points_here", "_law_far"] (defScope s__law_bond) := ⟨rfl, rfl, rfl, by decide +kernel, rfl, by decide +kernel, by decide +kernel⟩
abbrev N__law_drawn : List Str := ["_law_flow_here", "_law_own", "_law_winds", "_law_bonds", "_law_far", "_law_last", "_law_m", "_law_names_here", "_law_end", "_law_k"]
theorem sc__law_drawn : FnScope N__law_drawn ["_law_flow_here", "_law_own", "_law_winds", "_law_bonds", "_law_far", "_law_last"] (defScope s__law_drawn) := ⟨rfl, rfl, rfl, by decide +kernel, rfl, by decide +kernel, by decide +kernel⟩
abbrev N__law_stands : List Str := ["_law_web_here", "_law_m", "_law_points_here", "_law_found", "_law_text"]
theorem sc__law_stands : FnScope N__law_stands ["_law_web_here", "_law_m"] (defScope s__law_stands) := ⟨rfl, rfl, rfl, by decide +kernel, rfl, by decide +kernel, by decide +kernel⟩
abbrev N__law_copy : List Str := ["_law_m"]
theorem sc__law_copy : FnScope N__law_copy ["_law_m"] (defScope s__law_copy) := ⟨rfl, rfl, rfl, by decide +kernel, rfl, by decide +kernel, by decide +kernel⟩
abbrev N__law_strange : List Str := ["_law_flow_here", "_law_low", "_law_high", "_law_far"]
theorem sc__law_strange : FnScope N__law_strange ["_law_flow_here", "_law_low", "_law_high"] (defScope s__law_strange) := ⟨rfl, rfl, rfl, by decide +kernel, rfl, by decide +kernel, by decide +kernel⟩
abbrev N__law_field : List Str := ["_law_ask", "_law_found", "e"]
theorem sc__law_field : FnScope N__law_field ["_law_ask"] (defScope s__law_field) := ⟨rfl, rfl, rfl, by decide +kernel, rfl, by decide +kernel, by decide +kernel⟩
abbrev N_law : List Str := ["_law_script", "_law_flow_here", "_law_own", "_law_m", "_law_web_here", "_law_other", "_law_n", "_law_kind", "_law_at", "_law_end", "_law_begin", "_law_low", "_law_high", "_law_hush", "_law_second", "_law_last", "_law_found"]
theorem sc_law : FnScope N_law ["_law_script"] (defScope s_law) := ⟨rfl, rfl, rfl, by decide +kernel, rfl, by decide +kernel, by decide +kernel⟩
def d_is_number : He.DefD := ⟨("is_number", none), "is_number", "is_number", defArgs s_is_number, defBody s_is_number, defScope s_is_number, [], []⟩
def d_is_whole : He.DefD := ⟨("is_whole", none), "is_whole", "is_whole", defArgs s_is_whole, defBody s_is_whole, defScope s_is_whole, [], []⟩
def d_is_one_of : He.DefD := ⟨("is_one_of", none), "is_one_of", "is_one_of", defArgs s_is_one_of, defBody s_is_one_of, defScope s_is_one_of, [], []⟩
def d_is_name : He.DefD := ⟨("is_name", none), "is_name", "is_name", defArgs s_is_name, defBody s_is_name, defScope s_is_name, [], []⟩
def d_TideError_UinitU : He.DefD := ⟨("TideError", some "__init__"), "__init__", "TideError.__init__", defArgs s_TideError_UinitU, defBody s_TideError_UinitU, defScope s_TideError_UinitU, [.str "TideError", .str "refused"], []⟩
def d_BadBy_UinitU : He.DefD := ⟨("BadBy", some "__init__"), "__init__", "BadBy.__init__", defArgs s_BadBy_UinitU, defBody s_BadBy_UinitU, defScope s_BadBy_UinitU, [], []⟩
def d_Used_UinitU : He.DefD := ⟨("Used", some "__init__"), "__init__", "Used.__init__", defArgs s_Used_UinitU, defBody s_Used_UinitU, defScope s_Used_UinitU, [], []⟩
def d_Missing_UinitU : He.DefD := ⟨("Missing", some "__init__"), "__init__", "Missing.__init__", defArgs s_Missing_UinitU, defBody s_Missing_UinitU, defScope s_Missing_UinitU, [.str "Missing", .str "refused"], []⟩
def d_NoPoint_UinitU : He.DefD := ⟨("NoPoint", some "__init__"), "__init__", "NoPoint.__init__", defArgs s_NoPoint_UinitU, defBody s_NoPoint_UinitU, defScope s_NoPoint_UinitU, [], []⟩
def d_NoTie_UinitU : He.DefD := ⟨("NoTie", some "__init__"), "__init__", "NoTie.__init__", defArgs s_NoTie_UinitU, defBody s_NoTie_UinitU, defScope s_NoTie_UinitU, [], []⟩
def d_Web_UinitU : He.DefD := ⟨("Web", some "__init__"), "__init__", "Web.__init__", defArgs s_Web_UinitU, defBody s_Web_UinitU, defScope s_Web_UinitU, [.int 100], []⟩
def d_Web_with_by : He.DefD := ⟨("Web", some "with_by"), "with_by", "Web.with_by", defArgs s_Web_with_by, defBody s_Web_with_by, defScope s_Web_with_by, [], []⟩
def d_Web_with_moment : He.DefD := ⟨("Web", some "with_moment"), "with_moment", "Web.with_moment", defArgs s_Web_with_moment, defBody s_Web_with_moment, defScope s_Web_with_moment, [], []⟩
def d_Web_with_span : He.DefD := ⟨("Web", some "with_span"), "with_span", "Web.with_span", defArgs s_Web_with_span, defBody s_Web_with_span, defScope s_Web_with_span, [], [("late", .int 0)]⟩
def d_Web_with_tie : He.DefD := ⟨("Web", some "with_tie"), "with_tie", "Web.with_tie", defArgs s_Web_with_tie, defBody s_Web_with_tie, defScope s_Web_with_tie, [], [("least", .non), ("most", .non)]⟩
def d_Web_without : He.DefD := ⟨("Web", some "without"), "without", "Web.without", defArgs s_Web_without, defBody s_Web_without, defScope s_Web_without, [], []⟩
def d_Web_moments : He.DefD := ⟨("Web", some "moments"), "moments", "Web.moments", defArgs s_Web_moments, defBody s_Web_moments, defScope s_Web_moments, [], []⟩
def d_Web_spans : He.DefD := ⟨("Web", some "spans"), "spans", "Web.spans", defArgs s_Web_spans, defBody s_Web_spans, defScope s_Web_spans, [], []⟩
def d_Web_ties : He.DefD := ⟨("Web", some "ties"), "ties", "Web.ties", defArgs s_Web_ties, defBody s_Web_ties, defScope s_Web_ties, [], []⟩
def d_Web_points : He.DefD := ⟨("Web", some "points"), "points", "Web.points", defArgs s_Web_points, defBody s_Web_points, defScope s_Web_points, [], []⟩
def d_Web_UeqU : He.DefD := ⟨("Web", some "__eq__"), "__eq__", "Web.__eq__", defArgs s_Web_UeqU, defBody s_Web_UeqU, defScope s_Web_UeqU, [], []⟩
def d_Web_UlenU : He.DefD := ⟨("Web", some "__len__"), "__len__", "Web.__len__", defArgs s_Web_UlenU, defBody s_Web_UlenU, defScope s_Web_UlenU, [], []⟩
def d_Web_UreprU : He.DefD := ⟨("Web", some "__repr__"), "__repr__", "Web.__repr__", defArgs s_Web_UreprU, defBody s_Web_UreprU, defScope s_Web_UreprU, [], []⟩
def d_woven : He.DefD := ⟨("woven", none), "woven", "woven", defArgs s_woven, defBody s_woven, defScope s_woven, [], []⟩
def d_is_begin : He.DefD := ⟨("is_begin", none), "is_begin", "is_begin", defArgs s_is_begin, defBody s_is_begin, defScope s_is_begin, [], []⟩
def d_are_lengths : He.DefD := ⟨("are_lengths", none), "are_lengths", "are_lengths", defArgs s_are_lengths, defBody s_are_lengths, defScope s_are_lengths, [], []⟩
def d_is_lateness : He.DefD := ⟨("is_lateness", none), "is_lateness", "is_lateness", defArgs s_is_lateness, defBody s_is_lateness, defScope s_is_lateness, [], []⟩
def d_is_used : He.DefD := ⟨("is_used", none), "is_used", "is_used", defArgs s_is_used, defBody s_is_used, defScope s_is_used, [], []⟩
def d_are_bounds : He.DefD := ⟨("are_bounds", none), "are_bounds", "are_bounds", defArgs s_are_bounds, defBody s_are_bounds, defScope s_are_bounds, [], []⟩
def d_need_free_name : He.DefD := ⟨("need_free_name", none), "need_free_name", "need_free_name", defArgs s_need_free_name, defBody s_need_free_name, defScope s_need_free_name, [], []⟩
def d_need_point : He.DefD := ⟨("need_point", none), "need_point", "need_point", defArgs s_need_point, defBody s_need_point, defScope s_need_point, [], []⟩
def d__law_flow : He.DefD := ⟨("_law_flow", none), "_law_flow", "_law_flow", defArgs s__law_flow, defBody s__law_flow, defScope s__law_flow, [], []⟩
def d__law_draw : He.DefD := ⟨("_law_draw", none), "_law_draw", "_law_draw", defArgs s__law_draw, defBody s__law_draw, defScope s__law_draw, [], []⟩
def d__law_pick : He.DefD := ⟨("_law_pick", none), "_law_pick", "_law_pick", defArgs s__law_pick, defBody s__law_pick, defScope s__law_pick, [], []⟩
def d__law_same : He.DefD := ⟨("_law_same", none), "_law_same", "_law_same", defArgs s__law_same, defBody s__law_same, defScope s__law_same, [], []⟩
def d__law_names : He.DefD := ⟨("_law_names", none), "_law_names", "_law_names", defArgs s__law_names, defBody s__law_names, defScope s__law_names, [], []⟩
def d__law_model : He.DefD := ⟨("_law_model", none), "_law_model", "_law_model", defArgs s__law_model, defBody s__law_model, defScope s__law_model, [], []⟩
def d__law_points : He.DefD := ⟨("_law_points", none), "_law_points", "_law_points", defArgs s__law_points, defBody s__law_points, defScope s__law_points, [], []⟩
def d__law_web : He.DefD := ⟨("_law_web", none), "_law_web", "_law_web", defArgs s__law_web, defBody s__law_web, defScope s__law_web, [], []⟩
def d__law_wind : He.DefD := ⟨("_law_wind", none), "_law_wind", "_law_wind", defArgs s__law_wind, defBody s__law_wind, defScope s__law_wind, [], []⟩
def d__law_bond : He.DefD := ⟨("_law_bond", none), "_law_bond", "_law_bond", defArgs s__law_bond, defBody s__law_bond, defScope s__law_bond, [], []⟩
def d__law_drawn : He.DefD := ⟨("_law_drawn", none), "_law_drawn", "_law_drawn", defArgs s__law_drawn, defBody s__law_drawn, defScope s__law_drawn, [], []⟩
def d__law_stands : He.DefD := ⟨("_law_stands", none), "_law_stands", "_law_stands", defArgs s__law_stands, defBody s__law_stands, defScope s__law_stands, [], []⟩
def d__law_copy : He.DefD := ⟨("_law_copy", none), "_law_copy", "_law_copy", defArgs s__law_copy, defBody s__law_copy, defScope s__law_copy, [], []⟩
def d__law_strange : He.DefD := ⟨("_law_strange", none), "_law_strange", "_law_strange", defArgs s__law_strange, defBody s__law_strange, defScope s__law_strange, [], []⟩
def d__law_field : He.DefD := ⟨("_law_field", none), "_law_field", "_law_field", defArgs s__law_field, defBody s__law_field, defScope s__law_field, [], []⟩
def d_law : He.DefD := ⟨("law", none), "law", "law", defArgs s_law, defBody s_law, defScope s_law, [], []⟩
def fn : List He.DefD := [d_is_number, d_is_whole, d_is_one_of, d_is_name, d_TideError_UinitU, d_BadBy_UinitU, d_Used_UinitU, d_Missing_UinitU, d_NoPoint_UinitU, d_NoTie_UinitU, d_Web_UinitU, d_Web_with_by, d_Web_with_moment, d_Web_with_span, d_Web_with_tie, d_Web_without, d_Web_moments, d_Web_spans, d_Web_ties, d_Web_points, d_Web_UeqU, d_Web_UlenU, d_Web_UreprU, d_woven, d_is_begin, d_are_lengths, d_is_lateness, d_is_used, d_are_bounds, d_need_free_name, d_need_point, d__law_flow, d__law_draw, d__law_pick, d__law_same, d__law_names, d__law_model, d__law_points, d__law_web, d__law_wind, d__law_bond, d__law_drawn, d__law_stands, d__law_copy, d__law_strange, d__law_field, d_law]
def fa0 : List He.Fa := [.glo "is_number", .glo "is_whole", .glo "is_one_of", .glo "is_name", .glo "woven", .glo "is_begin", .glo "are_lengths", .glo "is_lateness", .glo "is_used", .glo "are_bounds", .glo "need_free_name", .glo "need_point", .glo "_law_flow", .glo "_law_draw", .glo "_law_pick", .glo "_law_same", .glo "_law_names", .glo "_law_model", .glo "_law_points", .glo "_law_web", .glo "_law_wind", .glo "_law_bond", .glo "_law_drawn", .glo "_law_stands", .glo "_law_copy", .glo "_law_strange", .glo "_law_field", .glo "law", .free "isinstance", .free "int"]
def fa1 : List He.Fa := [.free "bool", .free "str", .free "all", .free "len", .free "ValueError", .free "LookupError", .free "list", .free "tuple", .free "any", .free "abs", .free "dict", .free "range", .free "repr", .str "LETTERS" "abcdefghijklmnopqrstuvwxyz", .int "LONGEST_NAME" 8, .int "BY" 100, .str "START" "start", .int "MOST_BY" 1000, .int "MOST_MOMENTS" 10, .int "MOST_SPANS" 4, .int "MOST_TIES" 40, .int "MOST_LENGTH" 1000, .int "MOST_LATE" 1000, .int "MOST_BOUND" 1000, .glo "Web", .cls "Web", .mkr "Web", .noat "Web" "by", .noat "Web" "moment_rows", .noat "Web" "span_rows"]
def fa2 : List He.Fa := [.noat "Web" "tie_rows", .noat "Web" "__bool__", .meth "Web" "__init__", .meth "Web" "with_by", .meth "Web" "with_moment", .meth "Web" "with_span", .meth "Web" "with_tie", .meth "Web" "without", .meth "Web" "moments", .meth "Web" "spans", .meth "Web" "ties", .meth "Web" "points", .meth "Web" "__eq__", .meth "Web" "__len__", .meth "Web" "__repr__", .glo "BadBy", .glo "BadDeed", .glo "BadName", .glo "Taken", .glo "Used", .glo "Full", .glo "BadLength", .glo "BadLate", .glo "BadTie", .glo "NoMoment", .glo "NoPoint", .glo "NoSpan", .glo "NoTie", .glo "NoDeed", .glo "Done"]
def fa3 : List He.Fa := [.glo "Unbegun", .glo "Unheard", .glo "TooEarly", .glo "TooLate", .glo "BadNews", .glo "BadKeeper", .glo "Over", .glo "BadPaper", .glo "BadText", .glo "BadPlan", .glo "Unsteered", .glo "NothingBack", .glo "TideError", .glo "Missing"]
def fa : List He.Fa := fa0 ++ fa1 ++ fa2 ++ fa3
def exl0 (K : PySem.W.Frag) : List Bool := [viB K "ValueError" "ValueError.__init__", viB K "LookupError" "LookupError.__init__", clsDefB K (He.ga K "TideError") (He.ma K (He.ga K "TideError") "__init__") "__init__", oxB bVE K (He.ga K "BadBy"), xfB K (He.ga K "BadBy"), initB K (He.ga K "BadBy"), decide (PySem.W.findIn K (.ref (He.ga K "BadBy")) "word" = some none), decide (PySem.W.findIn K (.ref (He.ga K "BadBy")) "by" = some none), decide (PySem.W.exmAny K (.ref (He.ga K "BadBy")) [.ref (He.ga K "BadBy"), .ref (He.ga K "BadDeed")] = some true), clsDefB K (He.ga K "Missing") (He.ma K (He.ga K "Missing") "__init__") "__init__", oxB bLE K (He.ga K "NoPoint"), xfB K (He.ga K "NoPoint"), initB K (He.ga K "NoPoint"), decide (PySem.W.findIn K (.ref (He.ga K "NoPoint")) "word" = some none), decide (PySem.W.findIn K (.ref (He.ga K "NoPoint")) "name" = some none), decide (PySem.W.exmAny K (.ref (He.ga K "NoPoint")) [.ref (He.ga K "BadBy"), .ref (He.ga K "BadDeed")] = some false), decide (PySem.W.exmAny K (.ref (He.ga K "NoPoint")) [.ref (He.ga K "BadName"), .ref (He.ga K "Taken"), .ref (He.ga K "Used")] = some false), decide (PySem.W.exmAny K (.ref (He.ga K "NoPoint")) [.ref (He.ga K "Full")] = some false), decide (PySem.W.exmAny K (.ref (He.ga K "NoPoint")) [.ref (He.ga K "BadLength")] = some false), decide (PySem.W.exmAny K (.ref (He.ga K "NoPoint")) [.ref (He.ga K "BadLate")] = some false)]
def exl1 (K : PySem.W.Frag) : List Bool := [decide (PySem.W.exmAny K (.ref (He.ga K "NoPoint")) [.ref (He.ga K "BadTie")] = some false), decide (PySem.W.exmAny K (.ref (He.ga K "NoPoint")) [.ref (He.ga K "NoMoment"), .ref (He.ga K "NoPoint"), .ref (He.ga K "NoSpan")] = some true), oxB bVE K (He.ga K "Used"), xfB K (He.ga K "Used"), initB K (He.ga K "Used"), decide (PySem.W.findIn K (.ref (He.ga K "Used")) "word" = some none), decide (PySem.W.findIn K (.ref (He.ga K "Used")) "name" = some none), decide (PySem.W.exmAny K (.ref (He.ga K "Used")) [.ref (He.ga K "BadBy"), .ref (He.ga K "BadDeed")] = some false), decide (PySem.W.exmAny K (.ref (He.ga K "Used")) [.ref (He.ga K "BadName"), .ref (He.ga K "Taken"), .ref (He.ga K "Used")] = some true), oxB bLE K (He.ga K "NoTie"), xfB K (He.ga K "NoTie"), initB K (He.ga K "NoTie"), decide (PySem.W.findIn K (.ref (He.ga K "NoTie")) "word" = some none), decide (PySem.W.findIn K (.ref (He.ga K "NoTie")) "at" = some none), decide (PySem.W.exmAny K (.ref (He.ga K "NoTie")) [.ref (He.ga K "BadBy"), .ref (He.ga K "BadDeed")] = some false), decide (PySem.W.exmAny K (.ref (He.ga K "NoTie")) [.ref (He.ga K "BadName"), .ref (He.ga K "Taken"), .ref (He.ga K "Used")] = some false), decide (PySem.W.exmAny K (.ref (He.ga K "NoTie")) [.ref (He.ga K "Full")] = some false), decide (PySem.W.exmAny K (.ref (He.ga K "NoTie")) [.ref (He.ga K "BadLength")] = some false), decide (PySem.W.exmAny K (.ref (He.ga K "NoTie")) [.ref (He.ga K "BadLate")] = some false), decide (PySem.W.exmAny K (.ref (He.ga K "NoTie")) [.ref (He.ga K "BadTie")] = some false)]
def exl2 (K : PySem.W.Frag) : List Bool := [decide (PySem.W.exmAny K (.ref (He.ga K "NoTie")) [.ref (He.ga K "NoMoment"), .ref (He.ga K "NoPoint"), .ref (He.ga K "NoSpan")] = some false), decide (PySem.W.exmAny K (.ref (He.ga K "NoTie")) [.ref (He.ga K "NoTie"), .ref (He.ga K "NoDeed")] = some true), decide (PySem.W.findIn K (.ref (He.ga K "Web")) "__class__" = some (some (.builtin "object.__class__"))), decide (PySem.W.specialIn K (.builtin "object.__class__") "__get__" = some (some (.builtin "getset_descriptor.__get__"))), decide (PySem.W.takesIn K (.builtin "object.__class__") = some true), decide (PySem.W.mroIn K (He.ga K "Web") (.type "object") = some true), decide (PySem.W.findIn K (.ref (He.ga K "Web")) "__ne__" = some (some (.builtin "object.__ne__"))), decide (PySem.W.subIn K (.ref (He.ga K "Web")) (.type "object") = some true), decide (PySem.W.subIn K (.type "dict") (.ref (He.ga K "Web")) = some false), decide (PySem.W.kitOne K (.type "dict") (.ref (He.ga K "Web")) = some false), decide (PySem.W.subIn K (.type "list") (.ref (He.ga K "Web")) = some false), decide (PySem.W.kitOne K (.type "list") (.ref (He.ga K "Web")) = some false), decide (PySem.W.subIn K (.type "str") (.ref (He.ga K "Web")) = some false), decide (PySem.W.kitOne K (.type "str") (.ref (He.ga K "Web")) = some false)]
def exl (K : PySem.W.Frag) : List Bool := exl0 K ++ exl1 K ++ exl2 K
def ex (K : PySem.W.Frag) : Bool := (exl K).all id
theorem exAt {K : PySem.W.Frag} (h : ex K = true) (i : Nat) {b : Bool} (e : (exl K)[i]? = some b) : b = true := List.all_eq_true.mp h b (List.mem_of_getElem? e)
/-- what the top has written -/
structure Tp (K : PySem.W.Frag) (mg : Str → Option Value) : Prop where
  c : He.SaysD fa fn K
  m : ex K = true
  glo : ∀ (i : Nat) (x : Str), fa[i]? = some (.glo x) → mg x = some (.ref (He.ga K x))
  free : ∀ (i : Nat) (x : Str), fa[i]? = some (.free x) → mg x = none
  int : ∀ (i : Nat) (x : Str) (n : Int), fa[i]? = some (.int x n) → ∃ u, mg x = some u ∧ RelV (.int n) u
  str : ∀ (i : Nat) (x z : Str), fa[i]? = some (.str x z) → ∃ u, mg x = some u ∧ RelV (.str z) u
theorem tp_mk {K : PySem.W.Frag} {h : Heap} {mg : Str → Option Value} (X : K.In h) (G : h.Ns mainGlobals mg) (c : He.SaysD fa fn K) (m : ex K = true) : Tp K mg :=
  ⟨c, m, fun i x e => He.glo_ok X G (c.fact i e), fun i x e => He.free_ok X G (c.fact i e), fun i x n e => let ⟨t, h⟩ := He.int_ok X G (c.fact i e); ⟨_, h, t, rfl⟩, fun i x z e => let ⟨t, h⟩ := He.str_ok X G (c.fact i e); ⟨_, h, t, rfl⟩⟩
section
variable {K : PySem.W.Frag} {mg : Str → Option Value}
theorem g_is_number (T : Tp K mg) : mg "is_number" = some (.ref (He.ga K "is_number")) := T.glo 0 _ rfl
theorem g_is_whole (T : Tp K mg) : mg "is_whole" = some (.ref (He.ga K "is_whole")) := T.glo 1 _ rfl
theorem g_is_one_of (T : Tp K mg) : mg "is_one_of" = some (.ref (He.ga K "is_one_of")) := T.glo 2 _ rfl
theorem g_is_name (T : Tp K mg) : mg "is_name" = some (.ref (He.ga K "is_name")) := T.glo 3 _ rfl
theorem g_woven (T : Tp K mg) : mg "woven" = some (.ref (He.ga K "woven")) := T.glo 4 _ rfl
theorem g_is_begin (T : Tp K mg) : mg "is_begin" = some (.ref (He.ga K "is_begin")) := T.glo 5 _ rfl
theorem g_are_lengths (T : Tp K mg) : mg "are_lengths" = some (.ref (He.ga K "are_lengths")) := T.glo 6 _ rfl
theorem g_is_lateness (T : Tp K mg) : mg "is_lateness" = some (.ref (He.ga K "is_lateness")) := T.glo 7 _ rfl
theorem g_is_used (T : Tp K mg) : mg "is_used" = some (.ref (He.ga K "is_used")) := T.glo 8 _ rfl
theorem g_are_bounds (T : Tp K mg) : mg "are_bounds" = some (.ref (He.ga K "are_bounds")) := T.glo 9 _ rfl
theorem g_need_free_name (T : Tp K mg) : mg "need_free_name" = some (.ref (He.ga K "need_free_name")) := T.glo 10 _ rfl
theorem g_need_point (T : Tp K mg) : mg "need_point" = some (.ref (He.ga K "need_point")) := T.glo 11 _ rfl
theorem g__law_flow (T : Tp K mg) : mg "_law_flow" = some (.ref (He.ga K "_law_flow")) := T.glo 12 _ rfl
theorem g__law_draw (T : Tp K mg) : mg "_law_draw" = some (.ref (He.ga K "_law_draw")) := T.glo 13 _ rfl
theorem g__law_pick (T : Tp K mg) : mg "_law_pick" = some (.ref (He.ga K "_law_pick")) := T.glo 14 _ rfl
theorem g__law_same (T : Tp K mg) : mg "_law_same" = some (.ref (He.ga K "_law_same")) := T.glo 15 _ rfl
theorem g__law_names (T : Tp K mg) : mg "_law_names" = some (.ref (He.ga K "_law_names")) := T.glo 16 _ rfl
theorem g__law_model (T : Tp K mg) : mg "_law_model" = some (.ref (He.ga K "_law_model")) := T.glo 17 _ rfl
theorem g__law_points (T : Tp K mg) : mg "_law_points" = some (.ref (He.ga K "_law_points")) := T.glo 18 _ rfl
theorem g__law_web (T : Tp K mg) : mg "_law_web" = some (.ref (He.ga K "_law_web")) := T.glo 19 _ rfl
theorem g__law_wind (T : Tp K mg) : mg "_law_wind" = some (.ref (He.ga K "_law_wind")) := T.glo 20 _ rfl
theorem g__law_bond (T : Tp K mg) : mg "_law_bond" = some (.ref (He.ga K "_law_bond")) := T.glo 21 _ rfl
theorem g__law_drawn (T : Tp K mg) : mg "_law_drawn" = some (.ref (He.ga K "_law_drawn")) := T.glo 22 _ rfl
theorem g__law_stands (T : Tp K mg) : mg "_law_stands" = some (.ref (He.ga K "_law_stands")) := T.glo 23 _ rfl
theorem g__law_copy (T : Tp K mg) : mg "_law_copy" = some (.ref (He.ga K "_law_copy")) := T.glo 24 _ rfl
theorem g__law_strange (T : Tp K mg) : mg "_law_strange" = some (.ref (He.ga K "_law_strange")) := T.glo 25 _ rfl
theorem g__law_field (T : Tp K mg) : mg "_law_field" = some (.ref (He.ga K "_law_field")) := T.glo 26 _ rfl
theorem g_law (T : Tp K mg) : mg "law" = some (.ref (He.ga K "law")) := T.glo 27 _ rfl
theorem z_isinstance (T : Tp K mg) : mg "isinstance" = none := T.free 28 _ rfl
theorem z_int (T : Tp K mg) : mg "int" = none := T.free 29 _ rfl
theorem z_bool (T : Tp K mg) : mg "bool" = none := T.free 30 _ rfl
theorem z_str (T : Tp K mg) : mg "str" = none := T.free 31 _ rfl
theorem z_all (T : Tp K mg) : mg "all" = none := T.free 32 _ rfl
theorem z_len (T : Tp K mg) : mg "len" = none := T.free 33 _ rfl
theorem z_ValueError (T : Tp K mg) : mg "ValueError" = none := T.free 34 _ rfl
theorem z_LookupError (T : Tp K mg) : mg "LookupError" = none := T.free 35 _ rfl
theorem z_list (T : Tp K mg) : mg "list" = none := T.free 36 _ rfl
theorem z_tuple (T : Tp K mg) : mg "tuple" = none := T.free 37 _ rfl
theorem z_any (T : Tp K mg) : mg "any" = none := T.free 38 _ rfl
theorem z_abs (T : Tp K mg) : mg "abs" = none := T.free 39 _ rfl
theorem z_dict (T : Tp K mg) : mg "dict" = none := T.free 40 _ rfl
theorem z_range (T : Tp K mg) : mg "range" = none := T.free 41 _ rfl
theorem z_repr (T : Tp K mg) : mg "repr" = none := T.free 42 _ rfl
theorem c_LETTERS (T : Tp K mg) : ∃ u, mg "LETTERS" = some u ∧ RelV (.str "abcdefghijklmnopqrstuvwxyz") u := T.str 43 _ _ rfl
theorem c_LONGEST_NAME (T : Tp K mg) : ∃ u, mg "LONGEST_NAME" = some u ∧ RelV (.int 8) u := T.int 44 _ _ rfl
theorem c_BY (T : Tp K mg) : ∃ u, mg "BY" = some u ∧ RelV (.int 100) u := T.int 45 _ _ rfl
theorem c_START (T : Tp K mg) : ∃ u, mg "START" = some u ∧ RelV (.str "start") u := T.str 46 _ _ rfl
theorem c_MOST_BY (T : Tp K mg) : ∃ u, mg "MOST_BY" = some u ∧ RelV (.int 1000) u := T.int 47 _ _ rfl
theorem c_MOST_MOMENTS (T : Tp K mg) : ∃ u, mg "MOST_MOMENTS" = some u ∧ RelV (.int 10) u := T.int 48 _ _ rfl
theorem c_MOST_SPANS (T : Tp K mg) : ∃ u, mg "MOST_SPANS" = some u ∧ RelV (.int 4) u := T.int 49 _ _ rfl
theorem c_MOST_TIES (T : Tp K mg) : ∃ u, mg "MOST_TIES" = some u ∧ RelV (.int 40) u := T.int 50 _ _ rfl
theorem c_MOST_LENGTH (T : Tp K mg) : ∃ u, mg "MOST_LENGTH" = some u ∧ RelV (.int 1000) u := T.int 51 _ _ rfl
theorem c_MOST_LATE (T : Tp K mg) : ∃ u, mg "MOST_LATE" = some u ∧ RelV (.int 1000) u := T.int 52 _ _ rfl
theorem c_MOST_BOUND (T : Tp K mg) : ∃ u, mg "MOST_BOUND" = some u ∧ RelV (.int 1000) u := T.int 53 _ _ rfl
theorem g_Web (T : Tp K mg) : mg "Web" = some (.ref (He.ga K "Web")) := T.glo 54 _ rfl
theorem cl_Web (T : Tp K mg) : Cls K (He.ga K "Web") := He.cls_ok (T.c.fact 55 (f := .cls "Web") rfl)
theorem mk_Web (T : Tp K mg) : Mk K (He.ga K "Web") (He.ma K (He.ga K "Web") "__init__") := He.mkr_ok (T.c.fact 56 (f := .mkr "Web") rfl)
theorem na_by (T : Tp K mg) : NoAttr K (He.ga K "Web") "by" := He.noat_ok (T.c.fact 57 (f := .noat "Web" "by") rfl)
theorem na_moment_rows (T : Tp K mg) : NoAttr K (He.ga K "Web") "moment_rows" := He.noat_ok (T.c.fact 58 (f := .noat "Web" "moment_rows") rfl)
theorem na_span_rows (T : Tp K mg) : NoAttr K (He.ga K "Web") "span_rows" := He.noat_ok (T.c.fact 59 (f := .noat "Web" "span_rows") rfl)
theorem na_tie_rows (T : Tp K mg) : NoAttr K (He.ga K "Web") "tie_rows" := He.noat_ok (T.c.fact 60 (f := .noat "Web" "tie_rows") rfl)
theorem na_bool (T : Tp K mg) : NoAttr K (He.ga K "Web") "__bool__" := He.noat_ok (T.c.fact 61 (f := .noat "Web" "__bool__") rfl)
theorem me_Web_UinitU (T : Tp K mg) : Meth K (He.ga K "Web") "__init__" (He.ma K (He.ga K "Web") "__init__") := He.meth_ok (T.c.fact 62 (f := .meth "Web" "__init__") rfl)
theorem me_Web_with_by (T : Tp K mg) : Meth K (He.ga K "Web") "with_by" (He.ma K (He.ga K "Web") "with_by") := He.meth_ok (T.c.fact 63 (f := .meth "Web" "with_by") rfl)
theorem me_Web_with_moment (T : Tp K mg) : Meth K (He.ga K "Web") "with_moment" (He.ma K (He.ga K "Web") "with_moment") := He.meth_ok (T.c.fact 64 (f := .meth "Web" "with_moment") rfl)
theorem me_Web_with_span (T : Tp K mg) : Meth K (He.ga K "Web") "with_span" (He.ma K (He.ga K "Web") "with_span") := He.meth_ok (T.c.fact 65 (f := .meth "Web" "with_span") rfl)
theorem me_Web_with_tie (T : Tp K mg) : Meth K (He.ga K "Web") "with_tie" (He.ma K (He.ga K "Web") "with_tie") := He.meth_ok (T.c.fact 66 (f := .meth "Web" "with_tie") rfl)
theorem me_Web_without (T : Tp K mg) : Meth K (He.ga K "Web") "without" (He.ma K (He.ga K "Web") "without") := He.meth_ok (T.c.fact 67 (f := .meth "Web" "without") rfl)
theorem me_Web_moments (T : Tp K mg) : Meth K (He.ga K "Web") "moments" (He.ma K (He.ga K "Web") "moments") := He.meth_ok (T.c.fact 68 (f := .meth "Web" "moments") rfl)
theorem me_Web_spans (T : Tp K mg) : Meth K (He.ga K "Web") "spans" (He.ma K (He.ga K "Web") "spans") := He.meth_ok (T.c.fact 69 (f := .meth "Web" "spans") rfl)
theorem me_Web_ties (T : Tp K mg) : Meth K (He.ga K "Web") "ties" (He.ma K (He.ga K "Web") "ties") := He.meth_ok (T.c.fact 70 (f := .meth "Web" "ties") rfl)
theorem me_Web_points (T : Tp K mg) : Meth K (He.ga K "Web") "points" (He.ma K (He.ga K "Web") "points") := He.meth_ok (T.c.fact 71 (f := .meth "Web" "points") rfl)
theorem me_Web_UeqU (T : Tp K mg) : Meth K (He.ga K "Web") "__eq__" (He.ma K (He.ga K "Web") "__eq__") := He.meth_ok (T.c.fact 72 (f := .meth "Web" "__eq__") rfl)
theorem me_Web_UlenU (T : Tp K mg) : Meth K (He.ga K "Web") "__len__" (He.ma K (He.ga K "Web") "__len__") := He.meth_ok (T.c.fact 73 (f := .meth "Web" "__len__") rfl)
theorem me_Web_UreprU (T : Tp K mg) : Meth K (He.ga K "Web") "__repr__" (He.ma K (He.ga K "Web") "__repr__") := He.meth_ok (T.c.fact 74 (f := .meth "Web" "__repr__") rfl)
theorem g_BadBy (T : Tp K mg) : mg "BadBy" = some (.ref (He.ga K "BadBy")) := T.glo 75 _ rfl
theorem g_BadDeed (T : Tp K mg) : mg "BadDeed" = some (.ref (He.ga K "BadDeed")) := T.glo 76 _ rfl
theorem g_BadName (T : Tp K mg) : mg "BadName" = some (.ref (He.ga K "BadName")) := T.glo 77 _ rfl
theorem g_Taken (T : Tp K mg) : mg "Taken" = some (.ref (He.ga K "Taken")) := T.glo 78 _ rfl
theorem g_Used (T : Tp K mg) : mg "Used" = some (.ref (He.ga K "Used")) := T.glo 79 _ rfl
theorem g_Full (T : Tp K mg) : mg "Full" = some (.ref (He.ga K "Full")) := T.glo 80 _ rfl
theorem g_BadLength (T : Tp K mg) : mg "BadLength" = some (.ref (He.ga K "BadLength")) := T.glo 81 _ rfl
theorem g_BadLate (T : Tp K mg) : mg "BadLate" = some (.ref (He.ga K "BadLate")) := T.glo 82 _ rfl
theorem g_BadTie (T : Tp K mg) : mg "BadTie" = some (.ref (He.ga K "BadTie")) := T.glo 83 _ rfl
theorem g_NoMoment (T : Tp K mg) : mg "NoMoment" = some (.ref (He.ga K "NoMoment")) := T.glo 84 _ rfl
theorem g_NoPoint (T : Tp K mg) : mg "NoPoint" = some (.ref (He.ga K "NoPoint")) := T.glo 85 _ rfl
theorem g_NoSpan (T : Tp K mg) : mg "NoSpan" = some (.ref (He.ga K "NoSpan")) := T.glo 86 _ rfl
theorem g_NoTie (T : Tp K mg) : mg "NoTie" = some (.ref (He.ga K "NoTie")) := T.glo 87 _ rfl
theorem g_NoDeed (T : Tp K mg) : mg "NoDeed" = some (.ref (He.ga K "NoDeed")) := T.glo 88 _ rfl
theorem g_Done (T : Tp K mg) : mg "Done" = some (.ref (He.ga K "Done")) := T.glo 89 _ rfl
theorem g_Unbegun (T : Tp K mg) : mg "Unbegun" = some (.ref (He.ga K "Unbegun")) := T.glo 90 _ rfl
theorem g_Unheard (T : Tp K mg) : mg "Unheard" = some (.ref (He.ga K "Unheard")) := T.glo 91 _ rfl
theorem g_TooEarly (T : Tp K mg) : mg "TooEarly" = some (.ref (He.ga K "TooEarly")) := T.glo 92 _ rfl
theorem g_TooLate (T : Tp K mg) : mg "TooLate" = some (.ref (He.ga K "TooLate")) := T.glo 93 _ rfl
theorem g_BadNews (T : Tp K mg) : mg "BadNews" = some (.ref (He.ga K "BadNews")) := T.glo 94 _ rfl
theorem g_BadKeeper (T : Tp K mg) : mg "BadKeeper" = some (.ref (He.ga K "BadKeeper")) := T.glo 95 _ rfl
theorem g_Over (T : Tp K mg) : mg "Over" = some (.ref (He.ga K "Over")) := T.glo 96 _ rfl
theorem g_BadPaper (T : Tp K mg) : mg "BadPaper" = some (.ref (He.ga K "BadPaper")) := T.glo 97 _ rfl
theorem g_BadText (T : Tp K mg) : mg "BadText" = some (.ref (He.ga K "BadText")) := T.glo 98 _ rfl
theorem g_BadPlan (T : Tp K mg) : mg "BadPlan" = some (.ref (He.ga K "BadPlan")) := T.glo 99 _ rfl
theorem g_Unsteered (T : Tp K mg) : mg "Unsteered" = some (.ref (He.ga K "Unsteered")) := T.glo 100 _ rfl
theorem g_NothingBack (T : Tp K mg) : mg "NothingBack" = some (.ref (He.ga K "NothingBack")) := T.glo 101 _ rfl
theorem g_TideError (T : Tp K mg) : mg "TideError" = some (.ref (He.ga K "TideError")) := T.glo 102 _ rfl
theorem g_Missing (T : Tp K mg) : mg "Missing" = some (.ref (He.ga K "Missing")) := T.glo 103 _ rfl
theorem vi_ValueError (T : Tp K mg) : PySem.W.findCls K (.type "ValueError") (.type "type") "__init__" = some (.val (.builtin "ValueError.__init__")) := viB_ok (exAt T.m 0 rfl)
theorem vi_LookupError (T : Tp K mg) : PySem.W.findCls K (.type "LookupError") (.type "type") "__init__" = some (.val (.builtin "LookupError.__init__")) := viB_ok (exAt T.m 1 rfl)
theorem cd_TideError (T : Tp K mg) : ClsDef K (He.ga K "TideError") (He.ma K (He.ga K "TideError") "__init__") "__init__" := clsDefB_ok (exAt T.m 2 rfl)
theorem oe_BadBy (T : Tp K mg) : OxC bVE K (He.ga K "BadBy") := oxB_ok bVE_ok (exAt T.m 3 rfl)
theorem xf_BadBy (T : Tp K mg) : XfC K (He.ga K "BadBy") := xfB_ok (exAt T.m 4 rfl)
theorem in_BadBy (T : Tp K mg) : InitAt K (He.ga K "BadBy") (He.ma K (He.ga K "BadBy") "__init__") := initB_ok (exAt T.m 5 rfl)
theorem nf_BadBy_word (T : Tp K mg) : PySem.W.findIn K (.ref (He.ga K "BadBy")) "word" = some none := of_decide_eq_true (exAt T.m 6 rfl)
theorem nf_BadBy_by (T : Tp K mg) : PySem.W.findIn K (.ref (He.ga K "BadBy")) "by" = some none := of_decide_eq_true (exAt T.m 7 rfl)
theorem em_BadBy_0 (T : Tp K mg) : PySem.W.exmAny K (.ref (He.ga K "BadBy")) [.ref (He.ga K "BadBy"), .ref (He.ga K "BadDeed")] = some true := of_decide_eq_true (exAt T.m 8 rfl)
theorem cd_Missing (T : Tp K mg) : ClsDef K (He.ga K "Missing") (He.ma K (He.ga K "Missing") "__init__") "__init__" := clsDefB_ok (exAt T.m 9 rfl)
theorem oe_NoPoint (T : Tp K mg) : OxC bLE K (He.ga K "NoPoint") := oxB_ok bLE_ok (exAt T.m 10 rfl)
theorem xf_NoPoint (T : Tp K mg) : XfC K (He.ga K "NoPoint") := xfB_ok (exAt T.m 11 rfl)
theorem in_NoPoint (T : Tp K mg) : InitAt K (He.ga K "NoPoint") (He.ma K (He.ga K "NoPoint") "__init__") := initB_ok (exAt T.m 12 rfl)
theorem nf_NoPoint_word (T : Tp K mg) : PySem.W.findIn K (.ref (He.ga K "NoPoint")) "word" = some none := of_decide_eq_true (exAt T.m 13 rfl)
theorem nf_NoPoint_name (T : Tp K mg) : PySem.W.findIn K (.ref (He.ga K "NoPoint")) "name" = some none := of_decide_eq_true (exAt T.m 14 rfl)
theorem em_NoPoint_0 (T : Tp K mg) : PySem.W.exmAny K (.ref (He.ga K "NoPoint")) [.ref (He.ga K "BadBy"), .ref (He.ga K "BadDeed")] = some false := of_decide_eq_true (exAt T.m 15 rfl)
theorem em_NoPoint_1 (T : Tp K mg) : PySem.W.exmAny K (.ref (He.ga K "NoPoint")) [.ref (He.ga K "BadName"), .ref (He.ga K "Taken"), .ref (He.ga K "Used")] = some false := of_decide_eq_true (exAt T.m 16 rfl)
theorem em_NoPoint_2 (T : Tp K mg) : PySem.W.exmAny K (.ref (He.ga K "NoPoint")) [.ref (He.ga K "Full")] = some false := of_decide_eq_true (exAt T.m 17 rfl)
theorem em_NoPoint_3 (T : Tp K mg) : PySem.W.exmAny K (.ref (He.ga K "NoPoint")) [.ref (He.ga K "BadLength")] = some false := of_decide_eq_true (exAt T.m 18 rfl)
theorem em_NoPoint_4 (T : Tp K mg) : PySem.W.exmAny K (.ref (He.ga K "NoPoint")) [.ref (He.ga K "BadLate")] = some false := of_decide_eq_true (exAt T.m 19 rfl)
theorem em_NoPoint_5 (T : Tp K mg) : PySem.W.exmAny K (.ref (He.ga K "NoPoint")) [.ref (He.ga K "BadTie")] = some false := of_decide_eq_true (exAt T.m 20 rfl)
theorem em_NoPoint_6 (T : Tp K mg) : PySem.W.exmAny K (.ref (He.ga K "NoPoint")) [.ref (He.ga K "NoMoment"), .ref (He.ga K "NoPoint"), .ref (He.ga K "NoSpan")] = some true := of_decide_eq_true (exAt T.m 21 rfl)
theorem oe_Used (T : Tp K mg) : OxC bVE K (He.ga K "Used") := oxB_ok bVE_ok (exAt T.m 22 rfl)
theorem xf_Used (T : Tp K mg) : XfC K (He.ga K "Used") := xfB_ok (exAt T.m 23 rfl)
theorem in_Used (T : Tp K mg) : InitAt K (He.ga K "Used") (He.ma K (He.ga K "Used") "__init__") := initB_ok (exAt T.m 24 rfl)
theorem nf_Used_word (T : Tp K mg) : PySem.W.findIn K (.ref (He.ga K "Used")) "word" = some none := of_decide_eq_true (exAt T.m 25 rfl)
theorem nf_Used_name (T : Tp K mg) : PySem.W.findIn K (.ref (He.ga K "Used")) "name" = some none := of_decide_eq_true (exAt T.m 26 rfl)
theorem em_Used_0 (T : Tp K mg) : PySem.W.exmAny K (.ref (He.ga K "Used")) [.ref (He.ga K "BadBy"), .ref (He.ga K "BadDeed")] = some false := of_decide_eq_true (exAt T.m 27 rfl)
theorem em_Used_1 (T : Tp K mg) : PySem.W.exmAny K (.ref (He.ga K "Used")) [.ref (He.ga K "BadName"), .ref (He.ga K "Taken"), .ref (He.ga K "Used")] = some true := of_decide_eq_true (exAt T.m 28 rfl)
theorem oe_NoTie (T : Tp K mg) : OxC bLE K (He.ga K "NoTie") := oxB_ok bLE_ok (exAt T.m 29 rfl)
theorem xf_NoTie (T : Tp K mg) : XfC K (He.ga K "NoTie") := xfB_ok (exAt T.m 30 rfl)
theorem in_NoTie (T : Tp K mg) : InitAt K (He.ga K "NoTie") (He.ma K (He.ga K "NoTie") "__init__") := initB_ok (exAt T.m 31 rfl)
theorem nf_NoTie_word (T : Tp K mg) : PySem.W.findIn K (.ref (He.ga K "NoTie")) "word" = some none := of_decide_eq_true (exAt T.m 32 rfl)
theorem nf_NoTie_at (T : Tp K mg) : PySem.W.findIn K (.ref (He.ga K "NoTie")) "at" = some none := of_decide_eq_true (exAt T.m 33 rfl)
theorem em_NoTie_0 (T : Tp K mg) : PySem.W.exmAny K (.ref (He.ga K "NoTie")) [.ref (He.ga K "BadBy"), .ref (He.ga K "BadDeed")] = some false := of_decide_eq_true (exAt T.m 34 rfl)
theorem em_NoTie_1 (T : Tp K mg) : PySem.W.exmAny K (.ref (He.ga K "NoTie")) [.ref (He.ga K "BadName"), .ref (He.ga K "Taken"), .ref (He.ga K "Used")] = some false := of_decide_eq_true (exAt T.m 35 rfl)
theorem em_NoTie_2 (T : Tp K mg) : PySem.W.exmAny K (.ref (He.ga K "NoTie")) [.ref (He.ga K "Full")] = some false := of_decide_eq_true (exAt T.m 36 rfl)
theorem em_NoTie_3 (T : Tp K mg) : PySem.W.exmAny K (.ref (He.ga K "NoTie")) [.ref (He.ga K "BadLength")] = some false := of_decide_eq_true (exAt T.m 37 rfl)
theorem em_NoTie_4 (T : Tp K mg) : PySem.W.exmAny K (.ref (He.ga K "NoTie")) [.ref (He.ga K "BadLate")] = some false := of_decide_eq_true (exAt T.m 38 rfl)
theorem em_NoTie_5 (T : Tp K mg) : PySem.W.exmAny K (.ref (He.ga K "NoTie")) [.ref (He.ga K "BadTie")] = some false := of_decide_eq_true (exAt T.m 39 rfl)
theorem em_NoTie_6 (T : Tp K mg) : PySem.W.exmAny K (.ref (He.ga K "NoTie")) [.ref (He.ga K "NoMoment"), .ref (He.ga K "NoPoint"), .ref (He.ga K "NoSpan")] = some false := of_decide_eq_true (exAt T.m 40 rfl)
theorem em_NoTie_7 (T : Tp K mg) : PySem.W.exmAny K (.ref (He.ga K "NoTie")) [.ref (He.ga K "NoTie"), .ref (He.ga K "NoDeed")] = some true := of_decide_eq_true (exAt T.m 41 rfl)
theorem ti0_Web (T : Tp K mg) : PySem.W.findIn K (.ref (He.ga K "Web")) "__class__" = some (some (.builtin "object.__class__")) := of_decide_eq_true (exAt T.m 42 rfl)
theorem ti1_Web (T : Tp K mg) : PySem.W.specialIn K (.builtin "object.__class__") "__get__" = some (some (.builtin "getset_descriptor.__get__")) := of_decide_eq_true (exAt T.m 43 rfl)
theorem ti2_Web (T : Tp K mg) : PySem.W.takesIn K (.builtin "object.__class__") = some true := of_decide_eq_true (exAt T.m 44 rfl)
theorem ti3_Web (T : Tp K mg) : PySem.W.mroIn K (He.ga K "Web") (.type "object") = some true := of_decide_eq_true (exAt T.m 45 rfl)
theorem ne_Web (T : Tp K mg) : PySem.W.findIn K (.ref (He.ga K "Web")) "__ne__" = some (some (.builtin "object.__ne__")) := of_decide_eq_true (exAt T.m 46 rfl)
theorem ob_Web (T : Tp K mg) : PySem.W.subIn K (.ref (He.ga K "Web")) (.type "object") = some true := of_decide_eq_true (exAt T.m 47 rfl)
theorem sd_Web (T : Tp K mg) : PySem.W.subIn K (.type "dict") (.ref (He.ga K "Web")) = some false := of_decide_eq_true (exAt T.m 48 rfl)
theorem kd_Web (T : Tp K mg) : PySem.W.kitOne K (.type "dict") (.ref (He.ga K "Web")) = some false := of_decide_eq_true (exAt T.m 49 rfl)
theorem sl_Web (T : Tp K mg) : PySem.W.subIn K (.type "list") (.ref (He.ga K "Web")) = some false := of_decide_eq_true (exAt T.m 50 rfl)
theorem kl_Web (T : Tp K mg) : PySem.W.kitOne K (.type "list") (.ref (He.ga K "Web")) = some false := of_decide_eq_true (exAt T.m 51 rfl)
theorem sz_Web (T : Tp K mg) : PySem.W.subIn K (.type "str") (.ref (He.ga K "Web")) = some false := of_decide_eq_true (exAt T.m 52 rfl)
theorem kz_Web (T : Tp K mg) : PySem.W.kitOne K (.type "str") (.ref (He.ga K "Web")) = some false := of_decide_eq_true (exAt T.m 53 rfl)
theorem f_is_number (T : Tp K mg) : ∃ fd, FunD K "is_number" "is_number" (defArgs s_is_number) (defBody s_is_number) (defScope s_is_number) [] [] (He.ga K "is_number") fd := T.c.def_ 0 (d := d_is_number) rfl
theorem b_is_number {f : Addr} {fd : FuncData} (F : FunD K "is_number" "is_number" (defArgs s_is_number) (defBody s_is_number) (defScope s_is_number) [] [] f fd) : Binds K fd ["thing"] [] := F.bindsN fun _ _ _ _ _ _ us hl => match us, hl with | [_], _ => rfl
theorem f_is_whole (T : Tp K mg) : ∃ fd, FunD K "is_whole" "is_whole" (defArgs s_is_whole) (defBody s_is_whole) (defScope s_is_whole) [] [] (He.ga K "is_whole") fd := T.c.def_ 1 (d := d_is_whole) rfl
theorem b_is_whole {f : Addr} {fd : FuncData} (F : FunD K "is_whole" "is_whole" (defArgs s_is_whole) (defBody s_is_whole) (defScope s_is_whole) [] [] f fd) : Binds K fd ["thing", "least", "most"] [] := F.bindsN fun _ _ _ _ _ _ us hl => match us, hl with | [_, _, _], _ => rfl
theorem f_is_one_of (T : Tp K mg) : ∃ fd, FunD K "is_one_of" "is_one_of" (defArgs s_is_one_of) (defBody s_is_one_of) (defScope s_is_one_of) [] [] (He.ga K "is_one_of") fd := T.c.def_ 2 (d := d_is_one_of) rfl
theorem b_is_one_of {f : Addr} {fd : FuncData} (F : FunD K "is_one_of" "is_one_of" (defArgs s_is_one_of) (defBody s_is_one_of) (defScope s_is_one_of) [] [] f fd) : Binds K fd ["thing", "names"] [] := F.bindsN fun _ _ _ _ _ _ us hl => match us, hl with | [_, _], _ => rfl
theorem f_is_name (T : Tp K mg) : ∃ fd, FunD K "is_name" "is_name" (defArgs s_is_name) (defBody s_is_name) (defScope s_is_name) [] [] (He.ga K "is_name") fd := T.c.def_ 3 (d := d_is_name) rfl
theorem b_is_name {f : Addr} {fd : FuncData} (F : FunD K "is_name" "is_name" (defArgs s_is_name) (defBody s_is_name) (defScope s_is_name) [] [] f fd) : Binds K fd ["thing"] [] := F.bindsN fun _ _ _ _ _ _ us hl => match us, hl with | [_], _ => rfl
theorem f_TideError_UinitU (T : Tp K mg) : ∃ fd, FunD K "__init__" "TideError.__init__" (defArgs s_TideError_UinitU) (defBody s_TideError_UinitU) (defScope s_TideError_UinitU) [(V.str "TideError" : V), (V.str "refused" : V)] [] (He.ma K (He.ga K "TideError") "__init__") fd := T.c.def_ 4 (d := d_TideError_UinitU) rfl
theorem f_BadBy_UinitU (T : Tp K mg) : ∃ fd, FunD K "__init__" "BadBy.__init__" (defArgs s_BadBy_UinitU) (defBody s_BadBy_UinitU) (defScope s_BadBy_UinitU) [] [] (He.ma K (He.ga K "BadBy") "__init__") fd := T.c.def_ 5 (d := d_BadBy_UinitU) rfl
theorem b_BadBy_UinitU {f : Addr} {fd : FuncData} (F : FunD K "__init__" "BadBy.__init__" (defArgs s_BadBy_UinitU) (defBody s_BadBy_UinitU) (defScope s_BadBy_UinitU) [] [] f fd) : Binds K fd ["self", "by"] [] := F.bindsN fun _ _ _ _ _ _ us hl => match us, hl with | [_, _], _ => rfl
theorem f_Used_UinitU (T : Tp K mg) : ∃ fd, FunD K "__init__" "Used.__init__" (defArgs s_Used_UinitU) (defBody s_Used_UinitU) (defScope s_Used_UinitU) [] [] (He.ma K (He.ga K "Used") "__init__") fd := T.c.def_ 6 (d := d_Used_UinitU) rfl
theorem b_Used_UinitU {f : Addr} {fd : FuncData} (F : FunD K "__init__" "Used.__init__" (defArgs s_Used_UinitU) (defBody s_Used_UinitU) (defScope s_Used_UinitU) [] [] f fd) : Binds K fd ["self", "name"] [] := F.bindsN fun _ _ _ _ _ _ us hl => match us, hl with | [_, _], _ => rfl
theorem f_Missing_UinitU (T : Tp K mg) : ∃ fd, FunD K "__init__" "Missing.__init__" (defArgs s_Missing_UinitU) (defBody s_Missing_UinitU) (defScope s_Missing_UinitU) [(V.str "Missing" : V), (V.str "refused" : V)] [] (He.ma K (He.ga K "Missing") "__init__") fd := T.c.def_ 7 (d := d_Missing_UinitU) rfl
theorem f_NoPoint_UinitU (T : Tp K mg) : ∃ fd, FunD K "__init__" "NoPoint.__init__" (defArgs s_NoPoint_UinitU) (defBody s_NoPoint_UinitU) (defScope s_NoPoint_UinitU) [] [] (He.ma K (He.ga K "NoPoint") "__init__") fd := T.c.def_ 8 (d := d_NoPoint_UinitU) rfl
theorem b_NoPoint_UinitU {f : Addr} {fd : FuncData} (F : FunD K "__init__" "NoPoint.__init__" (defArgs s_NoPoint_UinitU) (defBody s_NoPoint_UinitU) (defScope s_NoPoint_UinitU) [] [] f fd) : Binds K fd ["self", "name"] [] := F.bindsN fun _ _ _ _ _ _ us hl => match us, hl with | [_, _], _ => rfl
theorem f_NoTie_UinitU (T : Tp K mg) : ∃ fd, FunD K "__init__" "NoTie.__init__" (defArgs s_NoTie_UinitU) (defBody s_NoTie_UinitU) (defScope s_NoTie_UinitU) [] [] (He.ma K (He.ga K "NoTie") "__init__") fd := T.c.def_ 9 (d := d_NoTie_UinitU) rfl
theorem b_NoTie_UinitU {f : Addr} {fd : FuncData} (F : FunD K "__init__" "NoTie.__init__" (defArgs s_NoTie_UinitU) (defBody s_NoTie_UinitU) (defScope s_NoTie_UinitU) [] [] f fd) : Binds K fd ["self", "at"] [] := F.bindsN fun _ _ _ _ _ _ us hl => match us, hl with | [_, _], _ => rfl
theorem f_Web_UinitU (T : Tp K mg) : ∃ fd, FunD K "__init__" "Web.__init__" (defArgs s_Web_UinitU) (defBody s_Web_UinitU) (defScope s_Web_UinitU) [(V.int 100 : V)] [] (He.ma K (He.ga K "Web") "__init__") fd := T.c.def_ 10 (d := d_Web_UinitU) rfl
theorem f_Web_with_by (T : Tp K mg) : ∃ fd, FunD K "with_by" "Web.with_by" (defArgs s_Web_with_by) (defBody s_Web_with_by) (defScope s_Web_with_by) [] [] (He.ma K (He.ga K "Web") "with_by") fd := T.c.def_ 11 (d := d_Web_with_by) rfl
theorem b_Web_with_by {f : Addr} {fd : FuncData} (F : FunD K "with_by" "Web.with_by" (defArgs s_Web_with_by) (defBody s_Web_with_by) (defScope s_Web_with_by) [] [] f fd) : Binds K fd ["self", "by"] [] := F.bindsN fun _ _ _ _ _ _ us hl => match us, hl with | [_, _], _ => rfl
theorem f_Web_with_moment (T : Tp K mg) : ∃ fd, FunD K "with_moment" "Web.with_moment" (defArgs s_Web_with_moment) (defBody s_Web_with_moment) (defScope s_Web_with_moment) [] [] (He.ma K (He.ga K "Web") "with_moment") fd := T.c.def_ 12 (d := d_Web_with_moment) rfl
theorem b_Web_with_moment {f : Addr} {fd : FuncData} (F : FunD K "with_moment" "Web.with_moment" (defArgs s_Web_with_moment) (defBody s_Web_with_moment) (defScope s_Web_with_moment) [] [] f fd) : Binds K fd ["self", "name"] [] := F.bindsN fun _ _ _ _ _ _ us hl => match us, hl with | [_, _], _ => rfl
theorem f_Web_with_span (T : Tp K mg) : ∃ fd, FunD K "with_span" "Web.with_span" (defArgs s_Web_with_span) (defBody s_Web_with_span) (defScope s_Web_with_span) [] [("late", V.int 0)] (He.ma K (He.ga K "Web") "with_span") fd := T.c.def_ 13 (d := d_Web_with_span) rfl
theorem f_Web_with_tie (T : Tp K mg) : ∃ fd, FunD K "with_tie" "Web.with_tie" (defArgs s_Web_with_tie) (defBody s_Web_with_tie) (defScope s_Web_with_tie) [] [("least", V.non), ("most", V.non)] (He.ma K (He.ga K "Web") "with_tie") fd := T.c.def_ 14 (d := d_Web_with_tie) rfl
theorem f_Web_without (T : Tp K mg) : ∃ fd, FunD K "without" "Web.without" (defArgs s_Web_without) (defBody s_Web_without) (defScope s_Web_without) [] [] (He.ma K (He.ga K "Web") "without") fd := T.c.def_ 15 (d := d_Web_without) rfl
theorem b_Web_without {f : Addr} {fd : FuncData} (F : FunD K "without" "Web.without" (defArgs s_Web_without) (defBody s_Web_without) (defScope s_Web_without) [] [] f fd) : Binds K fd ["self", "name"] [] := F.bindsN fun _ _ _ _ _ _ us hl => match us, hl with | [_, _], _ => rfl
theorem f_Web_moments (T : Tp K mg) : ∃ fd, FunD K "moments" "Web.moments" (defArgs s_Web_moments) (defBody s_Web_moments) (defScope s_Web_moments) [] [] (He.ma K (He.ga K "Web") "moments") fd := T.c.def_ 16 (d := d_Web_moments) rfl
theorem b_Web_moments {f : Addr} {fd : FuncData} (F : FunD K "moments" "Web.moments" (defArgs s_Web_moments) (defBody s_Web_moments) (defScope s_Web_moments) [] [] f fd) : Binds K fd ["self"] [] := F.bindsN fun _ _ _ _ _ _ us hl => match us, hl with | [_], _ => rfl
theorem f_Web_spans (T : Tp K mg) : ∃ fd, FunD K "spans" "Web.spans" (defArgs s_Web_spans) (defBody s_Web_spans) (defScope s_Web_spans) [] [] (He.ma K (He.ga K "Web") "spans") fd := T.c.def_ 17 (d := d_Web_spans) rfl
theorem b_Web_spans {f : Addr} {fd : FuncData} (F : FunD K "spans" "Web.spans" (defArgs s_Web_spans) (defBody s_Web_spans) (defScope s_Web_spans) [] [] f fd) : Binds K fd ["self"] [] := F.bindsN fun _ _ _ _ _ _ us hl => match us, hl with | [_], _ => rfl
theorem f_Web_ties (T : Tp K mg) : ∃ fd, FunD K "ties" "Web.ties" (defArgs s_Web_ties) (defBody s_Web_ties) (defScope s_Web_ties) [] [] (He.ma K (He.ga K "Web") "ties") fd := T.c.def_ 18 (d := d_Web_ties) rfl
theorem b_Web_ties {f : Addr} {fd : FuncData} (F : FunD K "ties" "Web.ties" (defArgs s_Web_ties) (defBody s_Web_ties) (defScope s_Web_ties) [] [] f fd) : Binds K fd ["self"] [] := F.bindsN fun _ _ _ _ _ _ us hl => match us, hl with | [_], _ => rfl
theorem f_Web_points (T : Tp K mg) : ∃ fd, FunD K "points" "Web.points" (defArgs s_Web_points) (defBody s_Web_points) (defScope s_Web_points) [] [] (He.ma K (He.ga K "Web") "points") fd := T.c.def_ 19 (d := d_Web_points) rfl
theorem b_Web_points {f : Addr} {fd : FuncData} (F : FunD K "points" "Web.points" (defArgs s_Web_points) (defBody s_Web_points) (defScope s_Web_points) [] [] f fd) : Binds K fd ["self"] [] := F.bindsN fun _ _ _ _ _ _ us hl => match us, hl with | [_], _ => rfl
theorem f_Web_UeqU (T : Tp K mg) : ∃ fd, FunD K "__eq__" "Web.__eq__" (defArgs s_Web_UeqU) (defBody s_Web_UeqU) (defScope s_Web_UeqU) [] [] (He.ma K (He.ga K "Web") "__eq__") fd := T.c.def_ 20 (d := d_Web_UeqU) rfl
theorem b_Web_UeqU {f : Addr} {fd : FuncData} (F : FunD K "__eq__" "Web.__eq__" (defArgs s_Web_UeqU) (defBody s_Web_UeqU) (defScope s_Web_UeqU) [] [] f fd) : Binds K fd ["self", "other"] [] := F.bindsN fun _ _ _ _ _ _ us hl => match us, hl with | [_, _], _ => rfl
theorem f_Web_UlenU (T : Tp K mg) : ∃ fd, FunD K "__len__" "Web.__len__" (defArgs s_Web_UlenU) (defBody s_Web_UlenU) (defScope s_Web_UlenU) [] [] (He.ma K (He.ga K "Web") "__len__") fd := T.c.def_ 21 (d := d_Web_UlenU) rfl
theorem b_Web_UlenU {f : Addr} {fd : FuncData} (F : FunD K "__len__" "Web.__len__" (defArgs s_Web_UlenU) (defBody s_Web_UlenU) (defScope s_Web_UlenU) [] [] f fd) : Binds K fd ["self"] [] := F.bindsN fun _ _ _ _ _ _ us hl => match us, hl with | [_], _ => rfl
theorem f_Web_UreprU (T : Tp K mg) : ∃ fd, FunD K "__repr__" "Web.__repr__" (defArgs s_Web_UreprU) (defBody s_Web_UreprU) (defScope s_Web_UreprU) [] [] (He.ma K (He.ga K "Web") "__repr__") fd := T.c.def_ 22 (d := d_Web_UreprU) rfl
theorem b_Web_UreprU {f : Addr} {fd : FuncData} (F : FunD K "__repr__" "Web.__repr__" (defArgs s_Web_UreprU) (defBody s_Web_UreprU) (defScope s_Web_UreprU) [] [] f fd) : Binds K fd ["self"] [] := F.bindsN fun _ _ _ _ _ _ us hl => match us, hl with | [_], _ => rfl
theorem f_woven (T : Tp K mg) : ∃ fd, FunD K "woven" "woven" (defArgs s_woven) (defBody s_woven) (defScope s_woven) [] [] (He.ga K "woven") fd := T.c.def_ 23 (d := d_woven) rfl
theorem b_woven {f : Addr} {fd : FuncData} (F : FunD K "woven" "woven" (defArgs s_woven) (defBody s_woven) (defScope s_woven) [] [] f fd) : Binds K fd ["by", "moments", "spans", "ties"] [] := F.bindsN fun _ _ _ _ _ _ us hl => match us, hl with | [_, _, _, _], _ => rfl
theorem f_is_begin (T : Tp K mg) : ∃ fd, FunD K "is_begin" "is_begin" (defArgs s_is_begin) (defBody s_is_begin) (defScope s_is_begin) [] [] (He.ga K "is_begin") fd := T.c.def_ 24 (d := d_is_begin) rfl
theorem b_is_begin {f : Addr} {fd : FuncData} (F : FunD K "is_begin" "is_begin" (defArgs s_is_begin) (defBody s_is_begin) (defScope s_is_begin) [] [] f fd) : Binds K fd ["web", "name"] [] := F.bindsN fun _ _ _ _ _ _ us hl => match us, hl with | [_, _], _ => rfl
theorem f_are_lengths (T : Tp K mg) : ∃ fd, FunD K "are_lengths" "are_lengths" (defArgs s_are_lengths) (defBody s_are_lengths) (defScope s_are_lengths) [] [] (He.ga K "are_lengths") fd := T.c.def_ 25 (d := d_are_lengths) rfl
theorem b_are_lengths {f : Addr} {fd : FuncData} (F : FunD K "are_lengths" "are_lengths" (defArgs s_are_lengths) (defBody s_are_lengths) (defScope s_are_lengths) [] [] f fd) : Binds K fd ["low", "high"] [] := F.bindsN fun _ _ _ _ _ _ us hl => match us, hl with | [_, _], _ => rfl
theorem f_is_lateness (T : Tp K mg) : ∃ fd, FunD K "is_lateness" "is_lateness" (defArgs s_is_lateness) (defBody s_is_lateness) (defScope s_is_lateness) [] [] (He.ga K "is_lateness") fd := T.c.def_ 26 (d := d_is_lateness) rfl
theorem b_is_lateness {f : Addr} {fd : FuncData} (F : FunD K "is_lateness" "is_lateness" (defArgs s_is_lateness) (defBody s_is_lateness) (defScope s_is_lateness) [] [] f fd) : Binds K fd ["late"] [] := F.bindsN fun _ _ _ _ _ _ us hl => match us, hl with | [_], _ => rfl
theorem f_is_used (T : Tp K mg) : ∃ fd, FunD K "is_used" "is_used" (defArgs s_is_used) (defBody s_is_used) (defScope s_is_used) [] [] (He.ga K "is_used") fd := T.c.def_ 27 (d := d_is_used) rfl
theorem b_is_used {f : Addr} {fd : FuncData} (F : FunD K "is_used" "is_used" (defArgs s_is_used) (defBody s_is_used) (defScope s_is_used) [] [] f fd) : Binds K fd ["web", "name"] [] := F.bindsN fun _ _ _ _ _ _ us hl => match us, hl with | [_, _], _ => rfl
theorem f_are_bounds (T : Tp K mg) : ∃ fd, FunD K "are_bounds" "are_bounds" (defArgs s_are_bounds) (defBody s_are_bounds) (defScope s_are_bounds) [] [] (He.ga K "are_bounds") fd := T.c.def_ 28 (d := d_are_bounds) rfl
theorem b_are_bounds {f : Addr} {fd : FuncData} (F : FunD K "are_bounds" "are_bounds" (defArgs s_are_bounds) (defBody s_are_bounds) (defScope s_are_bounds) [] [] f fd) : Binds K fd ["least", "most"] [] := F.bindsN fun _ _ _ _ _ _ us hl => match us, hl with | [_, _], _ => rfl
theorem f_need_free_name (T : Tp K mg) : ∃ fd, FunD K "need_free_name" "need_free_name" (defArgs s_need_free_name) (defBody s_need_free_name) (defScope s_need_free_name) [] [] (He.ga K "need_free_name") fd := T.c.def_ 29 (d := d_need_free_name) rfl
theorem b_need_free_name {f : Addr} {fd : FuncData} (F : FunD K "need_free_name" "need_free_name" (defArgs s_need_free_name) (defBody s_need_free_name) (defScope s_need_free_name) [] [] f fd) : Binds K fd ["web", "name"] [] := F.bindsN fun _ _ _ _ _ _ us hl => match us, hl with | [_, _], _ => rfl
theorem f_need_point (T : Tp K mg) : ∃ fd, FunD K "need_point" "need_point" (defArgs s_need_point) (defBody s_need_point) (defScope s_need_point) [] [] (He.ga K "need_point") fd := T.c.def_ 30 (d := d_need_point) rfl
theorem b_need_point {f : Addr} {fd : FuncData} (F : FunD K "need_point" "need_point" (defArgs s_need_point) (defBody s_need_point) (defScope s_need_point) [] [] f fd) : Binds K fd ["web", "name"] [] := F.bindsN fun _ _ _ _ _ _ us hl => match us, hl with | [_, _], _ => rfl
theorem f__law_flow (T : Tp K mg) : ∃ fd, FunD K "_law_flow" "_law_flow" (defArgs s__law_flow) (defBody s__law_flow) (defScope s__law_flow) [] [] (He.ga K "_law_flow") fd := T.c.def_ 31 (d := d__law_flow) rfl
theorem b__law_flow {f : Addr} {fd : FuncData} (F : FunD K "_law_flow" "_law_flow" (defArgs s__law_flow) (defBody s__law_flow) (defScope s__law_flow) [] [] f fd) : Binds K fd ["_law_script"] [] := F.bindsN fun _ _ _ _ _ _ us hl => match us, hl with | [_], _ => rfl
theorem f__law_draw (T : Tp K mg) : ∃ fd, FunD K "_law_draw" "_law_draw" (defArgs s__law_draw) (defBody s__law_draw) (defScope s__law_draw) [] [] (He.ga K "_law_draw") fd := T.c.def_ 32 (d := d__law_draw) rfl
theorem b__law_draw {f : Addr} {fd : FuncData} (F : FunD K "_law_draw" "_law_draw" (defArgs s__law_draw) (defBody s__law_draw) (defScope s__law_draw) [] [] f fd) : Binds K fd ["_law_flow_here", "_law_size"] [] := F.bindsN fun _ _ _ _ _ _ us hl => match us, hl with | [_, _], _ => rfl
theorem f__law_pick (T : Tp K mg) : ∃ fd, FunD K "_law_pick" "_law_pick" (defArgs s__law_pick) (defBody s__law_pick) (defScope s__law_pick) [] [] (He.ga K "_law_pick") fd := T.c.def_ 33 (d := d__law_pick) rfl
theorem b__law_pick {f : Addr} {fd : FuncData} (F : FunD K "_law_pick" "_law_pick" (defArgs s__law_pick) (defBody s__law_pick) (defScope s__law_pick) [] [] f fd) : Binds K fd ["_law_flow_here", "_law_row"] [] := F.bindsN fun _ _ _ _ _ _ us hl => match us, hl with | [_, _], _ => rfl
theorem f__law_same (T : Tp K mg) : ∃ fd, FunD K "_law_same" "_law_same" (defArgs s__law_same) (defBody s__law_same) (defScope s__law_same) [] [] (He.ga K "_law_same") fd := T.c.def_ 34 (d := d__law_same) rfl
theorem b__law_same {f : Addr} {fd : FuncData} (F : FunD K "_law_same" "_law_same" (defArgs s__law_same) (defBody s__law_same) (defScope s__law_same) [] [] f fd) : Binds K fd ["_law_found", "_law_due"] [] := F.bindsN fun _ _ _ _ _ _ us hl => match us, hl with | [_, _], _ => rfl
theorem f__law_names (T : Tp K mg) : ∃ fd, FunD K "_law_names" "_law_names" (defArgs s__law_names) (defBody s__law_names) (defScope s__law_names) [] [] (He.ga K "_law_names") fd := T.c.def_ 35 (d := d__law_names) rfl
theorem b__law_names {f : Addr} {fd : FuncData} (F : FunD K "_law_names" "_law_names" (defArgs s__law_names) (defBody s__law_names) (defScope s__law_names) [] [] f fd) : Binds K fd ["_law_flow_here", "_law_many"] [] := F.bindsN fun _ _ _ _ _ _ us hl => match us, hl with | [_, _], _ => rfl
theorem f__law_model (T : Tp K mg) : ∃ fd, FunD K "_law_model" "_law_model" (defArgs s__law_model) (defBody s__law_model) (defScope s__law_model) [] [] (He.ga K "_law_model") fd := T.c.def_ 36 (d := d__law_model) rfl
theorem b__law_model {f : Addr} {fd : FuncData} (F : FunD K "_law_model" "_law_model" (defArgs s__law_model) (defBody s__law_model) (defScope s__law_model) [] [] f fd) : Binds K fd ["_law_last"] [] := F.bindsN fun _ _ _ _ _ _ us hl => match us, hl with | [_], _ => rfl
theorem f__law_points (T : Tp K mg) : ∃ fd, FunD K "_law_points" "_law_points" (defArgs s__law_points) (defBody s__law_points) (defScope s__law_points) [] [] (He.ga K "_law_points") fd := T.c.def_ 37 (d := d__law_points) rfl
theorem b__law_points {f : Addr} {fd : FuncData} (F : FunD K "_law_points" "_law_points" (defArgs s__law_points) (defBody s__law_points) (defScope s__law_points) [] [] f fd) : Binds K fd ["_law_m"] [] := F.bindsN fun _ _ _ _ _ _ us hl => match us, hl with | [_], _ => rfl
theorem f__law_web (T : Tp K mg) : ∃ fd, FunD K "_law_web" "_law_web" (defArgs s__law_web) (defBody s__law_web) (defScope s__law_web) [] [] (He.ga K "_law_web") fd := T.c.def_ 38 (d := d__law_web) rfl
theorem b__law_web {f : Addr} {fd : FuncData} (F : FunD K "_law_web" "_law_web" (defArgs s__law_web) (defBody s__law_web) (defScope s__law_web) [] [] f fd) : Binds K fd ["_law_m"] [] := F.bindsN fun _ _ _ _ _ _ us hl => match us, hl with | [_], _ => rfl
theorem f__law_wind (T : Tp K mg) : ∃ fd, FunD K "_law_wind" "_law_wind" (defArgs s__law_wind) (defBody s__law_wind) (defScope s__law_wind) [] [] (He.ga K "_law_wind") fd := T.c.def_ 39 (d := d__law_wind) rfl
theorem b__law_wind {f : Addr} {fd : FuncData} (F : FunD K "_law_wind" "_law_wind" (defArgs s__law_wind) (defBody s__law_wind) (defScope s__law_wind) [] [] f fd) : Binds K fd ["_law_flow_here", "_law_end", "_law_own", "_law_far"] [] := F.bindsN fun _ _ _ _ _ _ us hl => match us, hl with | [_, _, _, _], _ => rfl
theorem f__law_bond (T : Tp K mg) : ∃ fd, FunD K "_law_bond" "_law_bond" (defArgs s__law_bond) (defBody s__law_bond) (defScope s__law_bond) [] [] (He.ga K "_law_bond") fd := T.c.def_ 40 (d := d__law_bond) rfl
theorem b__law_bond {f : Addr} {fd : FuncData} (F : FunD K "_law_bond" "_law_bond" (defArgs s__law_bond) (defBody s__law_bond) (defScope s__law_bond) [] [] f fd) : Binds K fd ["_law_flow_here", "_law_points_here", "_law_far"] [] := F.bindsN fun _ _ _ _ _ _ us hl => match us, hl with | [_, _, _], _ => rfl
theorem f__law_drawn (T : Tp K mg) : ∃ fd, FunD K "_law_drawn" "_law_drawn" (defArgs s__law_drawn) (defBody s__law_drawn) (defScope s__law_drawn) [] [] (He.ga K "_law_drawn") fd := T.c.def_ 41 (d := d__law_drawn) rfl
theorem b__law_drawn {f : Addr} {fd : FuncData} (F : FunD K "_law_drawn" "_law_drawn" (defArgs s__law_drawn) (defBody s__law_drawn) (defScope s__law_drawn) [] [] f fd) : Binds K fd ["_law_flow_here", "_law_own", "_law_winds", "_law_bonds", "_law_far", "_law_last"] [] := F.bindsN fun _ _ _ _ _ _ us hl => match us, hl with | [_, _, _, _, _, _], _ => rfl
theorem f__law_stands (T : Tp K mg) : ∃ fd, FunD K "_law_stands" "_law_stands" (defArgs s__law_stands) (defBody s__law_stands) (defScope s__law_stands) [] [] (He.ga K "_law_stands") fd := T.c.def_ 42 (d := d__law_stands) rfl
theorem b__law_stands {f : Addr} {fd : FuncData} (F : FunD K "_law_stands" "_law_stands" (defArgs s__law_stands) (defBody s__law_stands) (defScope s__law_stands) [] [] f fd) : Binds K fd ["_law_web_here", "_law_m"] [] := F.bindsN fun _ _ _ _ _ _ us hl => match us, hl with | [_, _], _ => rfl
theorem f__law_copy (T : Tp K mg) : ∃ fd, FunD K "_law_copy" "_law_copy" (defArgs s__law_copy) (defBody s__law_copy) (defScope s__law_copy) [] [] (He.ga K "_law_copy") fd := T.c.def_ 43 (d := d__law_copy) rfl
theorem b__law_copy {f : Addr} {fd : FuncData} (F : FunD K "_law_copy" "_law_copy" (defArgs s__law_copy) (defBody s__law_copy) (defScope s__law_copy) [] [] f fd) : Binds K fd ["_law_m"] [] := F.bindsN fun _ _ _ _ _ _ us hl => match us, hl with | [_], _ => rfl
theorem f__law_strange (T : Tp K mg) : ∃ fd, FunD K "_law_strange" "_law_strange" (defArgs s__law_strange) (defBody s__law_strange) (defScope s__law_strange) [] [] (He.ga K "_law_strange") fd := T.c.def_ 44 (d := d__law_strange) rfl
theorem b__law_strange {f : Addr} {fd : FuncData} (F : FunD K "_law_strange" "_law_strange" (defArgs s__law_strange) (defBody s__law_strange) (defScope s__law_strange) [] [] f fd) : Binds K fd ["_law_flow_here", "_law_low", "_law_high"] [] := F.bindsN fun _ _ _ _ _ _ us hl => match us, hl with | [_, _, _], _ => rfl
theorem f__law_field (T : Tp K mg) : ∃ fd, FunD K "_law_field" "_law_field" (defArgs s__law_field) (defBody s__law_field) (defScope s__law_field) [] [] (He.ga K "_law_field") fd := T.c.def_ 45 (d := d__law_field) rfl
theorem b__law_field {f : Addr} {fd : FuncData} (F : FunD K "_law_field" "_law_field" (defArgs s__law_field) (defBody s__law_field) (defScope s__law_field) [] [] f fd) : Binds K fd ["_law_ask"] [] := F.bindsN fun _ _ _ _ _ _ us hl => match us, hl with | [_], _ => rfl
theorem f_law (T : Tp K mg) : ∃ fd, FunD K "law" "law" (defArgs s_law) (defBody s_law) (defScope s_law) [] [] (He.ga K "law") fd := T.c.def_ 46 (d := d_law) rfl
theorem b_law {f : Addr} {fd : FuncData} (F : FunD K "law" "law" (defArgs s_law) (defBody s_law) (defScope s_law) [] [] f fd) : Binds K fd ["_law_script"] [] := F.bindsN fun _ _ _ _ _ _ us hl => match us, hl with | [_], _ => rfl
end
/-! the head -/
def loose0 : List PySem.Str := ["_wall", "__name__", "LETTERS", "LONGEST_NAME", "is_number", "is_whole", "is_one_of", "is_name", "TideError", "BadBy", "BadName", "Taken", "Full", "BadLength", "BadLate", "BadTie", "Used", "BadPaper", "BadKeeper", "BadPlan", "BadText", "BadDeed", "Unsteered", "Missing", "NoMoment", "NoPoint", "NoSpan", "NoTie", "NoDeed", "RunFault"]
def loose1 : List PySem.Str := ["Done", "TooEarly", "TooLate", "Unbegun", "Unheard", "BadNews", "Over", "NothingBack", "BY", "START", "MOST_BY", "MOST_MOMENTS", "MOST_SPANS", "MOST_TIES", "MOST_LENGTH", "MOST_LATE", "MOST_BOUND", "Web", "woven", "is_begin", "are_lengths", "is_lateness", "is_used", "are_bounds", "need_free_name", "need_point", "_law_flow", "_law_draw", "_law_pick", "_law_same"]
def loose2 : List PySem.Str := ["_law_names", "_law_model", "_law_points", "_law_web", "_law_wind", "_law_bond", "_law_drawn", "_law_stands", "_law_copy", "_law_strange", "_law_field"]
def loose : List PySem.Str := loose0 ++ loose1 ++ loose2
abbrev R : PySem.W.OpenRow := PySem.W.OpenLaw.row PySem.Challenge.rw_tidewaiter_k06_webs_alike
def tf : List He.Defn := [("law", none)]
abbrev hk : PySem.W.Hook := hookY 4 fa fn tf ex
def ob (s : PySem.W.SharedT) : AlY := obsY 4 fa fn tf ex (HandSHeadRun.getT s)
theorem ob_eq (s : PySem.W.SharedT) : ob s = hk.obs s.abs := obsY_eq (HandSHeadRun.getT_eq s)
abbrev lawAt : Nat := 74
end Tw

set_option maxHeartbeats 0
namespace Tw
open PySem PySem.Spec PyProof.Rows L2
theorem run (w : World) : HandSHeadRun.RunEq R (PySem.W.view R.prog [lawAt]) hk ob 20000 loose w := by
  intro os
  kernel_rfl
end Tw

set_option maxHeartbeats 4000000
/-! comprehensions whose block changes nothing -/
namespace Tw
open PySem PySem.Spec PyProof.Rows L2
section
variable {α β : Type} {J : It} {G : Hp → Prop} {Y : Nat → Hp → V → Hp → Prop} {g : TG} {tt : TT} {te : TE} {vs : List Nat} {σ : L2.St} {H0 : Hp} {D : Addr} {Qd : Hp → Prop}
/-- [elt for target in source if test]: as the source's items as data, f the item's own (none: left out), S what a told item is -/
theorem lc_pure (as : List α) (w : Walk J as.length G Y) (f : α → Option β) (S : Hp → V → β → Prop) (Sk : ∀ {H H' v b}, Kt H H' → S H v b → S H' v b) (nD : H0 D = none) (hn : as.length ≤ 1000) (hG : ∀ H, Same H0 H → G H)
    (hs : ∀ i a x H H', as[i]? = some a → Same H0 H → Y i H x H' → ∀ (Good : V → Hp → Prop) (Bad : Hp → Prop), (∀ y c H4, f a = some c → Same H H4 → S H4 y c → Good y H4) → (f a = none → ∀ H3, Same H H3 → Bad H3) →
      g x (wipe σ vs) H' fun σ2 H2 => wipe σ2 vs = wipe σ vs ∧ tt σ2 H2 fun b H3 => if b = true then te σ2 H3 Good else Bad H3)
    (hd : ∀ H acc, Same H0 H → H D = some (.lst acc) → Paired (S H) acc (as.filterMap f) → Qd H) :
    ∃ W : Nat → Nat → Hp → Prop, (∃ m, W 0 m (upd H0 D (.lst []))) ∧ ∀ i m H, W i m H →
      (J.stop i H ∧ Qd H) ∨ (J.go i H ∧ ∃ Nx : Hp → Prop, (∀ H', Nx H' → ∃ m', m' < m ∧ W (i + 1) m' H') ∧ ∀ x H', J.yld i H x H' → g x (wipe σ vs) H' fun σ2 H2 => wipe σ2 vs = wipe σ vs ∧ tt σ2 H2 fun b H3 =>
        if b = true then te σ2 H3 fun y H4 => ∃ acc, H4 D = some (.lst acc) ∧ acc.length < sizeLine ∧ Nx (upd H4 D (.lst (acc ++ [y]))) else Nx H3) := by
  refine lc_it w (fun i H => Same H0 H ∧ ∃ acc, H D = some (.lst acc) ∧ Paired (S H) acc ((as.take i).filterMap f)) ⟨same_upd nD, [], upd_same, .nil⟩ (fun _ H _ h => hG H h.1) ?_ ?_
  · rintro i x H H' hi ⟨s1, acc, d1, p1⟩ y
    obtain ⟨a, ea⟩ : ∃ a, as[i]? = some a := ⟨as[i], by simp [hi]⟩
    have e2 : (as.take (i + 1)).filterMap f = (as.take i).filterMap f ++ (f a).toList := by
      rw [List.take_add_one, ea, List.filterMap_append]
      cases h : f a <;> simp [List.filterMap, h]
    refine hs i a x H H' ea s1 y _ _ (fun z c H4 ec s4 hz => ⟨acc, s4 _ _ d1, ?_, ?_, acc ++ [z], upd_same, ?_⟩) (fun en H3 s3 => ⟨s1.trans s3, acc, s3 _ _ d1, ?_⟩)
    · have hl := Paired.length p1
      have h2 : ((as.take i).filterMap f).length ≤ as.length := Nat.le_trans (List.length_filterMap_le _ _) (by rw [List.length_take]; omega)
      exact small1000 (by omega)
    · intro b o e
      rw [upd_ne (ne_of_none e nD)]
      exact s4 _ _ (s1 b o e)
    · rw [e2, ec]
      have kk : Kt H4 (upd H4 D (.lst (acc ++ [z]))) := Kt.upd fun xs e => by
        rw [s4 _ _ d1] at e
        cases e
      exact Paired.snoc (Paired.mono (fun v b h => Sk kk (Sk (Kt.of s4) h)) p1) (Sk kk hz)
    · rw [e2, en]
      show Paired _ _ (_ ++ [])
      rw [List.append_nil]
      exact Paired.mono (fun v b h => Sk (Kt.of s3) h) p1
  · rintro H ⟨s1, acc, d1, p1⟩
    rw [List.take_of_length_le (Nat.le_refl _)] at p1
    exact hd H acc s1 d1 p1
end
theorem walk_listN {K : PySem.W.Frag} {a : Addr} {xs : List V} {n : Nat} (h : xs.length = n) : Walk (Itl K a) n (fun H => SqL K H a xs) (YAt xs) := h ▸ walk_list
theorem walk_tupN {K : PySem.W.Frag} {a : Addr} {xs : List V} {n : Nat} (h : xs.length = n) : Walk (Itt K a) n (fun H => SqT K H a xs) (YAt xs) := h ▸ walk_tup
theorem sl_tupK {X : Cx} {K : PySem.W.Frag} (h : X.K = K) : SlR X (rSlT K) := h ▸ sl_tup
theorem sl_listK {X : Cx} {K : PySem.W.Frag} (h : X.K = K) : SlR X (rSlL K) := h ▸ sl_list
theorem flat_bls (l : List Bool) : (l.map V.bl).all flatV = true := by
  rw [List.all_map]
  exact List.all_eq_true.mpr fun _ _ => rfl
/-- a told item that is plain -/
def SV {β : Type} (enc : β → V) : Hp → V → β → Prop := fun _ v b => v = enc b
theorem paired_enc {β : Type} {enc : β → V} {H : Hp} : ∀ {acc : List V} {bs : List β}, Paired (SV enc H) acc bs → acc = bs.map enc
  | _, _, .nil => rfl
  | _, _, .cons h t => by
    rw [List.map_cons, ← paired_enc t, ← show _ = _ from h]
/-- a told item that is a tuple -/
def SR {β : Type} (row : β → List V) : Hp → V → β → Prop := fun H v b => ∃ t, v = .ref t ∧ H t = some (.tup (row b))
theorem sr_k {β : Type} {row : β → List V} {H H' : Hp} {v : V} {b : β} (k : Kt H H') (h : SR row H v b) : SR row H' v b := by
  obtain ⟨t, e, ht⟩ := h
  exact ⟨t, e, k _ _ ht⟩
theorem paired_rows {β : Type} {row : β → List V} {H : Hp} : ∀ {acc : List V} {bs : List β}, Paired (SR row H) acc bs → Rows H acc (bs.map row)
  | _, _, .nil => .nil
  | _, _, .cons h t => .cons h (paired_rows t)
theorem rows_at {β : Type} {row : β → List V} {H : Hp} {xs : List V} {bs : List β} {i : Nat} {x : V} {b : β} (h : Rows H xs (bs.map row)) (e : xs[i]? = some x) (eb : bs[i]? = some b) : ∃ t, x = .ref t ∧ H t = some (.tup (row b)) := by
  obtain ⟨t, r, h1, h2, h3⟩ := h.at e
  rw [List.getElem?_map, eb] at h2
  cases h2
  exact ⟨t, h1, h3⟩
end Tw

set_option maxHeartbeats 4000000
/-! values as data: lists of tuples of plain values compared -/
namespace Tw
open PySem PySem.Spec PyProof.Rows L2
def pd : V → PyData
  | .bl b => .bool b
  | .int i => .int i
  | .str z => .str z
  | _ => .none
/-- a plain value that can be laid -/
def okV : V → Bool
  | .non => true
  | .bl _ => true
  | .int _ => true
  | .str z => PyData.canLay0 (.str z)
  | _ => false
theorem dp_ok {K : PySem.W.Frag} {H : Hp} {v : V} (h : okV v = true) : Dp K H v (pd v) := by
  cases v with
  | non => exact .non
  | bl b => exact .bl b
  | int i => exact .int i
  | str z => exact .str z
  | byt b => cases h
  | flt b => cases h
  | ref b => cases h
  | ty b => cases h
theorem can_ok {v : V} (h : okV v = true) : (pd v).canLay0 = true := by
  cases v with
  | non => rfl
  | bl b => rfl
  | int i => rfl
  | str z => exact h
  | byt b => cases h
  | flt b => cases h
  | ref b => cases h
  | ty b => cases h
theorem depth_pd (v : V) : (pd v).depth = 0 := by
  cases v <;> rfl
theorem dp_all {K : PySem.W.Frag} {H : Hp} : ∀ {r : List V}, r.all okV = true → DpAll K H r (r.map pd)
  | [], _ => .nil
  | v :: r, h => by
    rw [List.all_cons, Bool.and_eq_true] at h
    exact .cons (dp_ok h.1) (dp_all h.2)
theorem can_all : ∀ {r : List V}, r.all okV = true → PyData.canLayAll0 (r.map pd) = true
  | [], _ => rfl
  | v :: r, h => by
    rw [List.all_cons, Bool.and_eq_true] at h
    show (PyData.canLay0 (pd v) && PyData.canLayAll0 (r.map pd)) = true
    rw [can_ok h.1, can_all h.2]
    rfl
theorem depth_all : ∀ (r : List V), PyData.depthAll (r.map pd) = 0
  | [] => rfl
  | v :: r => by
    show max (PyData.depth (pd v)) (PyData.depthAll (r.map pd)) = 0
    rw [depth_pd, depth_all r]
    rfl
def pdR (r : List V) : PyData := .tuple (r.map pd)
theorem dp_rows {K : PySem.W.Frag} {H : Hp} : ∀ {xs : List V} {rs : List (List V)}, Rows H xs rs → (∀ r ∈ rs, r.all okV = true) → DpAll K H xs (rs.map pdR)
  | _, _, .nil, _ => .nil
  | _, _, .cons ⟨t, e, ht⟩ q, h => by
    subst e
    exact .cons (.tup (.inl (.inl ht)) (dp_all (h _ List.mem_cons_self))) (dp_rows q fun r hr => h r (List.mem_cons_of_mem _ hr))
theorem can_rows : ∀ {rs : List (List V)}, (∀ r ∈ rs, r.all okV = true) → PyData.canLayAll0 (rs.map pdR) = true
  | [], _ => rfl
  | r :: rs, h => by
    show (PyData.canLayAll0 (r.map pd) && PyData.canLayAll0 (rs.map pdR)) = true
    rw [can_all (h _ List.mem_cons_self), can_rows fun r hr => h r (List.mem_cons_of_mem _ hr)]
    rfl
theorem depth_rows : ∀ (rs : List (List V)), PyData.depthAll (rs.map pdR) ≤ 1
  | [] => Nat.zero_le _
  | r :: rs => by
    show max (PyData.depthAll (r.map pd) + 1) (PyData.depthAll (rs.map pdR)) ≤ 1
    rw [depth_all]
    exact Nat.max_le.mpr ⟨Nat.le_refl _, depth_rows rs⟩
theorem shaped_rows {rs : List (List V)} (h : ∀ r ∈ rs, r.all okV = true) : SeqAt.shaped (.list (rs.map pdR)) = true := by
  unfold SeqAt.shaped
  rw [Bool.and_eq_true]
  refine ⟨can_rows h, decide_eq_true ?_⟩
  show PyData.depthAll (rs.map pdR) + 1 ≤ 64
  have := depth_rows rs
  omega
/-- rows != [] -/
theorem ne_empty {K : PySem.W.Frag} {H : Hp} {a b : Addr} {xs : List V} {rs : List (List V)} {Q : VK} (ha : H a = some (.lst xs)) (hb : H b = some (.lst [])) (R : Rows H xs rs) (h : ∀ r ∈ rs, r.all okV = true) (q : Q (.bl (!rs.isEmpty)) H) : rNeD K (.ref a) (.ref b) H Q := by
  refine ⟨.list (rs.map pdR), .list [], .lst (.inl (.inl ha)) (dp_rows R h), .lst (.inl (.inl hb)) .nil, shaped_rows h, by decide, ?_⟩
  cases rs with
  | nil => exact q
  | cons r rs => exact q
end Tw

set_option maxHeartbeats 4000000
/-! own exceptions in the air: none, one or two fields beside the word -/
namespace Tw
open PySem PySem.Spec PyProof.Rows L2
section
variable {P : Program} {w : World} {K : PySem.W.Frag} {mg : Str → Option Value} {base : Heap} {k : Nat} {f C : Addr} {fd : FuncData} {ps : List Str} {sp : Sp} {x m : Str}
/-- where nothing may be raised, the raising promise is a plain one -/
theorem fn_calm (F : FnOk P w K mg base (L2.CX P w) k f fd ps sp) : FnOk P w K mg base CX0 k f fd ps (fun vs H Q _ => sp vs H Q E0) :=
  ⟨fun vs H Q E h => F.len vs H Q E0 h, fun A outer s H args us vs Q E hr e0 hb r h => codeAny_mono (F.run A outer s H args us vs Q E0 hr e0 hb r h) fun r s' hq => by
    cases r with
    | error e =>
      obtain ⟨_, _, _, _, _, _, _, _, _, _, _, _, hE⟩ := hq
      exact False.elim hE
    | ok fl =>
      cases fl with
      | ret u => exact hq
      | next => exact False.elim hq
      | brk => exact False.elim hq
      | cont => exact False.elim hq⟩
theorem MetX.calm (c : MetX P w K mg base k C m sp) : Met P w K mg base k C m (fun vs H Q _ => sp vs H Q E0) :=
  let ⟨f, fd, ps, cls, me, F, b⟩ := c.ex
  ⟨f, fd, ps, [], cls, me, fn_calm F, b, .nil⟩
theorem CalX.calm (c : CalX P w K mg base k x sp) : Cal P w K mg base k x (fun vs H Q _ => sp vs H Q E0) :=
  let ⟨f, fd, ps, F, here, kept, b⟩ := c.ex
  ⟨f, fd, ps, [], fn_calm F, here, kept, b, .nil⟩
end
def OutF (H : Hp) (E : XK) (C : Addr) (fs : List (Str × V)) : Prop := ∀ (d : Addr) (H' : Hp), Same H H' → H d = none → H' d = some (.xd fs) → E (.ref C) (some d) H'
theorem OutF.same {H H1 : Hp} {E : XK} {C : Addr} {fs : List (Str × V)} (o : OutF H E C fs) (s : Same H H1) : OutF H1 E C fs := fun d H' s' n e => o d H' (s.trans s') (s.free n) e
abbrev Out0 (H : Hp) (E : XK) (C : Addr) (w : Str) : Prop := OutF H E C [(("word" : Str), .str w)]
abbrev Out (H : Hp) (E : XK) (C : Addr) (w f : Str) (v : V) : Prop := OutF H E C [(f, v), (("word" : Str), .str w)]
abbrev Out2 (H : Hp) (E : XK) (C : Addr) (w f g : Str) (v u : V) : Prop := OutF H E C [(g, u), (f, v), (("word" : Str), .str w)]
theorem Out.same {H H1 : Hp} {E : XK} {C : Addr} {w f : Str} {v : V} (o : Out H E C w f v) (s : Same H H1) : Out H1 E C w f v := OutF.same o s
def sp_miss (b : Bs) (K : PySem.W.Frag) : Sp := fun vs H Q _ => ∃ (a C : Addr) (u y : Str), vs = [.ref a, .str u, .str y] ∧ OxC b K C ∧ PySem.W.findIn K (.ref C) "word" = some none ∧ H a = some (exo a C none) ∧ u.length ≤ 100 ∧ y.length ≤ 100 ∧
  ∀ d, H d = none → d ≠ a → Q .non (upd (upd H d (exd d [(("word" : Str), .str u)])) a (exo a C (some d)))
/-- what an own exception's making leaves -/
def Made (H : Hp) (a C : Addr) (fs : List (Str × V)) (Q : VK) : Prop := ∀ (d : Addr) (H2 : Hp), H d = none → d ≠ a → (∀ b, b ≠ a → b ≠ d → H2 b = H b) → H2 a = some (exo a C (some d)) → H2 d = some (exd d fs) → Q .non H2
def sp_exc0 (K : PySem.W.Frag) (C : Addr) (u : Str) : Sp := fun vs H Q _ => ∃ (a : Addr), vs = [.ref a] ∧ H a = some (exo a C none) ∧ Made H a C [(("word" : Str), .str u)] Q
def sp_exc1 (K : PySem.W.Frag) (C : Addr) (u f : Str) : Sp := fun vs H Q _ => ∃ (a : Addr) (v : V), vs = [.ref a, v] ∧ H a = some (exo a C none) ∧ Made H a C [(f, v), (("word" : Str), .str u)] Q
def sp_exc2 (K : PySem.W.Frag) (C : Addr) (u f g : Str) : Sp := fun vs H Q _ => ∃ (a : Addr) (v z : V), vs = [.ref a, v, z] ∧ H a = some (exo a C none) ∧ Made H a C [(g, z), (f, v), (("word" : Str), .str u)] Q
theorem made_out {C a : Addr} {fs : List (Str × V)} {H : Hp} {E : XK} (h : OutF H E C fs) (na : H a = none) : Made (upd H a (exo a C none)) a C fs
    (fun x H2 => x = .non ∧ ∃ (d : Addr) (fs : List (Str × V)), H2 a = some (exo a C (some d)) ∧ H2 d = some (exd d fs) ∧ H d = none ∧ E (.ref C) (some d) (upd (del H2 a) d (.xd fs))) := by
  intro d H2 nd da k e1 e2
  have nd2 : H d = none := by
    rw [upd_ne da] at nd
    exact nd
  refine ⟨rfl, d, _, e1, e2, nd2, h d _ (fun b o hb => ?_) nd2 upd_same⟩
  have h1 : b ≠ a := ne_of_none hb na
  have h2 : b ≠ d := ne_of_none hb nd2
  rw [upd_ne h2, del_ne h1, k b h1 h2, upd_ne h1]
  exact hb
section
variable {K : PySem.W.Frag} {C : Addr} {u f g : Str} {v z : V} {H : Hp} {E : XK}
theorem mk_out0 (h : Out0 H E C u) : ([] : List V).length ≤ 1000 ∧ ∀ a, H a = none → sp_exc0 K C u (.ref a :: ([] ++ [])) (upd H a (exo a C none))
    (fun x H2 => x = .non ∧ ∃ (d : Addr) (fs : List (Str × V)), H2 a = some (exo a C (some d)) ∧ H2 d = some (exd d fs) ∧ H d = none ∧ E (.ref C) (some d) (upd (del H2 a) d (.xd fs))) (fun _ _ _ => False) :=
  ⟨by show 0 ≤ 1000; decide, fun a na => ⟨a, rfl, upd_same, made_out h na⟩⟩
theorem mk_out (h : Out H E C u f v) : ([v] : List V).length ≤ 1000 ∧ ∀ a, H a = none → sp_exc1 K C u f (.ref a :: ([v] ++ [])) (upd H a (exo a C none))
    (fun x H2 => x = .non ∧ ∃ (d : Addr) (fs : List (Str × V)), H2 a = some (exo a C (some d)) ∧ H2 d = some (exd d fs) ∧ H d = none ∧ E (.ref C) (some d) (upd (del H2 a) d (.xd fs))) (fun _ _ _ => False) :=
  ⟨by show 1 ≤ 1000; decide, fun a na => ⟨a, v, rfl, upd_same, made_out h na⟩⟩
theorem mk_out2 (h : Out2 H E C u f g v z) : ([v, z] : List V).length ≤ 1000 ∧ ∀ a, H a = none → sp_exc2 K C u f g (.ref a :: ([v, z] ++ [])) (upd H a (exo a C none))
    (fun x H2 => x = .non ∧ ∃ (d : Addr) (fs : List (Str × V)), H2 a = some (exo a C (some d)) ∧ H2 d = some (exd d fs) ∧ H d = none ∧ E (.ref C) (some d) (upd (del H2 a) d (.xd fs))) (fun _ _ _ => False) :=
  ⟨by show 2 ≤ 1000; decide, fun a na => ⟨a, v, z, rfl, upd_same, made_out h na⟩⟩
end
end Tw

set_option maxHeartbeats 4000000
/-! a lambda without parameters that a name keeps: made and stored, handed on by its name, called by its name -/
namespace Tw
open PySem PySem.Spec PyProof.Rows L2
open LamX (ExtN Tabs TabB LamS CodeO)
/-- the object of the lambda made in X -/
abbrev lamAt (X : Cx) (ps : Arguments) (b : Expr) (sc : Scope) (c' : Addr) (pm ct : Value) : Obj := PySem.W.kla_obj "<lambda>" (X.env.qual ++ "<lambda>") ps b sc (cloFrom X.env.cells sc.names []) pm c' ct
/-- the lambda at f is known in X -/
structure KeptL (X : Cx) (ps : Arguments) (b : Expr) (sc : Scope) (f c' : Addr) : Prop where
  ex : ∃ pm ct, (f, lamAt X ps b sc c' pm ct) ∈ X.pn
section
variable {X : Cx} {pins : List (Addr × Obj)} {σ : L2.St} {H : Hp} {s : Shared} {ps : Arguments} {b : Expr} {sc : Scope} {f c' : Addr}
theorem pin_lam {pm ct : Value} (I : Inv X pins σ H s) (h1 : s.heap.get? f = some (lamAt X ps b sc c' pm ct)) (h2 : H f = none) (h3 : f ∉ frs X.stack) : Inv X ((f, lamAt X ps b sc c' pm ct) :: pins) σ H s := by
  have nl : f ≠ X.env.locals := by
    rintro rfl
    obtain ⟨m, ⟨o, es, ep, e1, e2, _⟩, _⟩ := I.loc
    rw [h1] at e1
    cases e1
    cases e2
  have nf : f ∉ X.fs := by
    intro hf
    refine h3 ?_
    rcases I.ok.stk with e | ⟨e, fr⟩
    · rw [e]
      exact hf
    · rw [e]
      show f ∈ List.filterMap (·.frame) (X.env :: X.outer)
      rw [List.filterMap_cons, fr]
      exact List.mem_cons_of_mem _ hf
  refine { I with pin := fun p hp => ?_ }
  rcases List.mem_append.mp hp with h | h
  · exact I.pin p (List.mem_append_left _ h)
  · rcases List.mem_cons.mp h with e | h
    · subst e
      exact ⟨h1, h2, nl, nf, fun v z => by cases z⟩
    · exact I.pin p (List.mem_append_right _ h)
theorem KeptL.at (k : KeptL X ps b sc f c') (I : Inv X pins σ H s) : ∃ pm ct, s.heap.get? f = some (lamAt X ps b sc c' pm ct) ∧ H f = none ∧ f ∉ frs X.stack := by
  obtain ⟨pm, ct, hm⟩ := k.ex
  obtain ⟨h1, h2, h3, h4, _⟩ := I.pin _ (List.mem_append_left _ hm)
  refine ⟨pm, ct, h1, h2, fun hf => ?_⟩
  rcases List.mem_cons.mp (I.stkSub _ hf) with e | e
  · exact h3 e
  · exact h4 e
end
section
variable {X : Cx} {ps : Arguments} {b : Expr} {sc : Scope} {T : List (Addr × Str)} {c P : Addr} {i : Nat} {x : Str} {rest : List Stmt} {u : Addr → Addr → List (Addr × Obj) → TS} {lpos pos' pos : Pos}
def tLamS (T : List (Addr × Str)) (q : Str) (i : Nat) (u : Addr → Addr → List (Addr × Obj) → TS) : TS := fun D σ H => Tabs T H ∧ ∀ (H1 : Hp) (f c' : Addr) (pn : List (Addr × Obj)), ExtN H H1 → Tabs T H1 → H1 c' = some (CodeO c' q) → u f c' pn D (σ.set i (some (.ref f))) H1
/-- x = lambda: b, and what follows -/
theorem pss_lam (hN : X.N.Nodup) (hi : X.N[i]? = some x) (hx : Loc X.env.scope x) (TB : TabB X.base X.mg c P) (hcode : X.env.code = .ref c) (hm : (P, X.env.qual ++ "<lambda>") ∈ T) (hu : ∀ p ∈ T, p.1 = P → p.2 = X.env.qual ++ "<lambda>") (L : LamS X.env.scope sc)
    (hrest : ∀ (f c' : Addr) (pn : List (Addr × Obj)), KeptL (X.tr pn X.xe) ps b sc f c' → PSs (X.tr pn X.xe) rest (u f c' pn)) (hdef : defaultsOf ps X.env = ([], []) := by rfl)
    (hs : swapsWith (.Lambda ps b sc lpos) (some (.Name x pos')) pos.line X.env = pure false := by rfl) (hf : X.fn x = true ∨ X.env.scope.names.lookup x = some .local := by first | exact .inl rfl | exact .inr rfl | assumption) :
    PSs X (.Assign [.Name x pos'] (.Lambda ps b sc lpos) pos :: rest) (tLamS T (X.env.qual ++ "<lambda>") i u) := by
  constructor
  intro pins s σ H D I h
  refine wpAny_execs_cons (wpAny_Assign_Name ?_ hs)
  refine LamX.lam_make2 I TB hcode hm hu h.1 hdef (L.has I.ok) ?_
  intro f c' pm ct H1 s1 I1 e1 t1 g1 g2 g3 g4
  have J := pin_lam I1 g1 g2 g3
  refine store_ok J hN hi hx (v := .ref f) rfl (fun s2 J2 => ?_) hf
  have K2 := J2.toTry X.xe
  have kp : KeptL (X.tr (X.pn ++ ((f, lamAt X ps b sc c' pm ct) :: pins)) X.xe) ps b sc f c' := ⟨pm, ct, List.mem_append_right _ List.mem_cons_self⟩
  have back : ∀ {pn' : List (Addr × Obj)} {σ' : L2.St} {H' : Hp} {s' : Shared}, Inv (X.tr (X.pn ++ ((f, lamAt X ps b sc c' pm ct) :: pins)) X.xe) pn' σ' H' s' → Inv X pins σ' H' s' := fun {pn' σ' H' s'} J' => by
    have Z := J'.ofTry (X := X) I.ok
    refine { Z with pin := fun p hp => Z.pin p ?_ }
    rcases List.mem_append.mp hp with h | h
    · exact List.mem_append_left _ h
    · exact List.mem_append_right _ (List.mem_cons_of_mem _ h)
  refine thn ((hrest f c' _ kp).run [] s2 _ H1 D K2 (h.2 H1 f c' _ e1 t1 g4)) fun fl s3 hq => ?_
  cases fl with
  | next =>
    obtain ⟨σ', H', J', q⟩ := hq
    exact ⟨σ', H', back J', q⟩
  | brk =>
    obtain ⟨σ', H', J', q⟩ := hq
    exact ⟨σ', H', back J', q⟩
  | cont =>
    obtain ⟨σ', H', J', q⟩ := hq
    exact ⟨σ', H', back J', q⟩
  | ret w =>
    obtain ⟨v, σ', H', J', r, q⟩ := hq
    exact ⟨v, σ', H', back J', r, q⟩
end
section
variable {X : Cx} {ps : Arguments} {b : Expr} {sc : Scope} {c P : Addr} {i : Nat} {x : Str} {rest : List Stmt} {u : Addr → Addr → List (Addr × Obj) → TS} {lpos pos' pos : Pos}
theorem pss_lam1 (hN : X.N.Nodup) (hi : X.N[i]? = some x) (hx : Loc X.env.scope x) (TB : TabB X.base X.mg c P) (hcode : X.env.code = .ref c) (L : LamS X.env.scope sc)
    (hrest : ∀ (f c' : Addr) (pn : List (Addr × Obj)), KeptL (X.tr pn X.xe) ps b sc f c' → PSs (X.tr pn X.xe) rest (u f c' pn)) (hdef : defaultsOf ps X.env = ([], []) := by rfl)
    (hs : swapsWith (.Lambda ps b sc lpos) (some (.Name x pos')) pos.line X.env = pure false := by rfl) (hf : X.fn x = true ∨ X.env.scope.names.lookup x = some .local := by first | exact .inl rfl | exact .inr rfl | assumption) :
    PSs X (.Assign [.Name x pos'] (.Lambda ps b sc lpos) pos :: rest) (tLamS [(P, X.env.qual ++ "<lambda>")] (X.env.qual ++ "<lambda>") i u) :=
  pss_lam hN hi hx TB hcode List.mem_cons_self (fun p hp _ => by rw [List.mem_singleton.mp hp]) L hrest hdef hs hf
end
section
variable {X : Cx} {ps : Arguments} {b : Expr} {sc : Scope} {f c' : Addr} {i k : Nat} {v : Str} {p p2 pos : Pos}
def tHand (q : Str) (f c' : Addr) (i : Nat) (TT : (XK → Hp → VK → Prop) → Hp → VK → Prop) (t : XK → TE) : TE := fun σ H Q => σ[i]? = some (some (.ref f)) ∧ H c' = some (CodeO c' q) ∧ TT (fun E H' Q' => t E σ H' Q') H Q
/-- g(v), v a name that keeps a lambda -/
theorem pe_hand {TT : (XK → Hp → VK → Prop) → Hp → VK → Prop} {x a : Str} {g : Addr} {ag : Arguments} {bg : List Stmt} {sg : Scope} {dV kV doc pm cdv ct oc : Value} {an od : Option Addr} {osl : Array (Option Value)} {Ng : List Str} {t : XK → TE}
    (hg : Gl X x) (hm : X.mg x = some (.ref g)) (hk : PySem.W.keepIn X.K (.ref g) = true) (lk : X.K.lookup g = some ⟨oc, od, .func (PySem.W.fnOf x x ag bg sg dV kV doc pm an cdv ct), osl⟩) (hcg : PySem.W.codeIn X.K cdv x = true)
    (hb : L2.Binds X.K (PySem.W.fnOf x x ag bg sg dV kV doc pm an cdv ct) [a] []) (Sg : FnScope Ng [a] sg) (hNg : Ng[0]? = some a) (hva : Vis sg a) (hG : LamX.GivesTo X Ng x sg g cdv bg a (X.env.qual ++ "<lambda>") TT)
    (kp : KeptL X ps b sc f c') (hN : X.N[i]? = some v) (hv : Vis X.env.scope v) (hr : Room (k + 2) X.A) (L : LamS X.env.scope sc)
    (hbind : ∀ (q : Str) (cl : List (Str × Addr)) (pm cv ctv : Value), bindArgs (PySem.W.kla_fn "<lambda>" q ps b sc cl pm cv ctv) ⟨[], []⟩ = pure [])
    (hbody : ∀ (A : Around) (outer : List Env) (s : Shared) (H : Hp) (E : XK), Room k (A.deeper (LamX.lamEnv X sc s.heap.objs.size f c')) → PE (LamX.lamCx X A outer s H E sc f c') b (t E))
    (hdb : (x == ("__debug__" : Str)) = false := by decide) (hd : (a == ("__debug__" : Str)) = false := by decide) (hcd : (a == ("__classdict__" : Str)) = false := by decide)
    (hd2 : (v == ("__debug__" : Str)) = false := by decide) (hcd2 : (v == ("__classdict__" : Str)) = false := by decide) :
    PE X (.Call (.Name x p) [.Name v p2] [] pos) (tHand (X.env.qual ++ "<lambda>") f c' i TT t) := by
  constructor
  intro pins s σ H Q I ⟨w1, w2, w3⟩
  have ev := (pe_var (pos := p2) hN hv hd2 hcd2).run pins s σ H (fun z H1 => z = .ref f ∧ H1 = H) I ⟨.ref f, w1, rfl, rfl⟩
  refine wpAny_Call_Name_kw (ld_glob I hg hm (PySem.W.callWith_K (h₀ := X.base) I.ok.mod.kin hk ?_ (by rfl) (by rfl)) hdb)
  show wpAny _ _ (spliced ((false, eval (.Name v p2) X.env) :: backTo pos (starEach [] X.env))) _ _ s
  refine Calls.spliced_cons (thn ev ?_)
  rintro val s1 ⟨z, H1, I1, rz, ez, eH⟩
  subst ez eH
  obtain rfl : val = Value.ref f := rz
  refine Calls.spliced_nil ⟨I1.kIn, ?_⟩
  obtain ⟨pm1, ct1, g1, g2, g3⟩ := kp.at I1
  refine wpAny_call (codeAny_mono (LamX.run_ofS (CX := C8.CX0) (Q := Q) (E := C8.E0) (N := Ng) (us := [.ref f]) (vs := [.ref f]) lk hcg Sg hr I1.env0 (hb s1 [.ref f] I1.kIn rfl) (.cons rfl .nil) rfl ?_) ?_)
  · intro hr'
    have act := hG f c' s1 H1 Q (fun E H' Q' => t E σ H' Q') (fun W pn xe E p1 p2 tk hW => LamX.pe_act (i := 0) I1 L g1 g2 g3 (hbind _ _ _ _ _) tk hW hr' (fun A outer s H hr2 => hbody A outer s H E hr2) hNg hva hd hcd) w2 w3
    obtain ⟨t', ht, hq⟩ := act
    exact ⟨t', ht.nox, hq⟩
  · intro r s2 hq
    match r, hq with
    | .error _, hq => exact (show False from hq).elim
    | .ok (.ret _), hq => exact I1.after hq
    | .ok .next, hq => exact False.elim hq
    | .ok .brk, hq => exact False.elim hq
    | .ok .cont, hq => exact False.elim hq
def tAct (q : Str) (f c' : Addr) (i : Nat) (t : TE) : TE := fun σ H Q => σ[i]? = some (some (.ref f)) ∧ H c' = some (CodeO c' q) ∧ t σ H Q
/-- v(), v a name that keeps a lambda; nothing is raised -/
theorem pe_act0 {t : TE} (kp : KeptL X ps b sc f c') (hN : X.N[i]? = some v) (hv : Vis X.env.scope v) (hr : Room (k + 1) X.A) (L : LamS X.env.scope sc)
    (hbind : ∀ (q : Str) (cl : List (Str × Addr)) (pm cv ctv : Value), bindArgs (PySem.W.kla_fn "<lambda>" q ps b sc cl pm cv ctv) ⟨[], []⟩ = pure [])
    (hbody : ∀ (A : Around) (outer : List Env) (s : Shared) (H : Hp), Room k (A.deeper (LamX.lamEnv X sc s.heap.objs.size f c')) → PE (LamX.lamCx X A outer s H E0 sc f c') b t)
    (hd2 : (v == ("__debug__" : Str)) = false := by decide) (hcd2 : (v == ("__classdict__" : Str)) = false := by decide) : PE X (.Call (.Name v p) [] [] pos) (tAct (X.env.qual ++ "<lambda>") f c' i t) := by
  constructor
  intro pins s σ H Q I ⟨w1, w2, w3⟩
  have ev := (pe_var (pos := p) hN hv hd2 hcd2).run pins s σ H (fun z H1 => z = .ref f ∧ H1 = H) I ⟨.ref f, w1, rfl, rfl⟩
  refine wpAny_Call_Name_kw (thn ev ?_)
  rintro val s1 ⟨z, H1, I1, rz, ez, eH⟩
  subst ez eH
  obtain rfl : val = Value.ref f := rz
  obtain ⟨pm1, ct1, g1, g2, g3⟩ := kp.at I1
  obtain ⟨⟨oc, vs, tk, k1, k2, k3⟩, _, _⟩ := I1.hok c' _ w2
  refine PySem.W.callWith_F0 ⟨_, _, _, _, g1⟩ (wpAny_call (codeAny_mono (R := CR (L2.CX X.prog X.w) X.stack X.prog X.w H1 s1 Q E0) ?_ ?_))
  · refine PySem.W.kla_callFunE hr.depth g1 rfl L.co L.gen rfl ⟨c', oc, vs, tk, rfl, k1, k2, k3⟩ ?_
    rw [show ([] : List Value) ++ [] = [] from rfl, hbind]
    refine wpAny_pure (wpAny_newFunctionEnv (fun y hy => (L.own y hy).2) (fun y hy => absurd hy (by simp)) (fun h1 n1 n2 => ⟨I1.nolimit.fresh _ n2, ?_⟩) L.kind)
    have kk : ∀ a o, s1.heap.get? a = some o → h1.get? a = some o := fun a o e => n2.extBut a o (Nat.ne_of_lt (Heap.lt_size e)) (Heap.get?_push_of_some _ e)
    have J := LamX.lam_start2 (E := E0) (f := f) (c' := c') (tk := s1.toks + ([] : List (Str × Value)).length) I1 L I1.env0 hr.hd Un.refl n1 kk
    refine PySem.W.kla_codeExpr (wpAny_mono ((hbody _ _ s1 H1 (hr.deeper _)).run [] _ _ H1 Q J w3) ?_ fun e s' hq => hq)
    rintro r s' ⟨z, H', J', rz, q⟩
    exact ⟨z, H', J'.os, J'.bare, J'.base, J'.hok, rz, q⟩
  · intro r s2 hq
    match r, hq with
    | .error _, hq =>
      obtain ⟨_, _, _, _, _, _, _, _, _, _, _, _, hE⟩ := hq
      exact False.elim hE
    | .ok (.ret _), hq => exact I1.after hq
    | .ok .next, hq => exact False.elim hq
    | .ok .brk, hq => exact False.elim hq
    | .ok .cont, hq => exact False.elim hq
end
end Tw

set_option maxHeartbeats 4000000
/-! methods called with keywords, in any order, some left out; what is raised told or not -/
namespace Tw
open PySem PySem.Spec PyProof.Rows L2
theorem MetG.calm {P : Program} {w : World} {K : PySem.W.Frag} {mg : Str → Option Value} {base : Heap} {k : Nat} {C : Addr} {m : Str} {sp : Sp} {n : Nat} {ks : List Str} {gV : List V → List V → List V} (c : MetG P w K mg base (L2.CX P w) k C m sp n ks gV) : MetG P w K mg base CX0 k C m (fun vs H Q _ => sp vs H Q E0) n ks gV :=
  let ⟨f, fd, ps, g, cls, me, F, kb⟩ := c.ex
  ⟨f, fd, ps, g, cls, me, fn_calm F, kb⟩
theorem vals_rev : ∀ {zs : List V} {ws : List Value}, Vals zs ws → Vals zs.reverse ws.reverse
  | _, _, .nil => .nil
  | _, _, .cons h t => by
    rw [List.reverse_cons, List.reverse_cons]
    exact (vals_rev t).append (.cons h .nil)
/-- o.m(e, .., k = v, ..) where what the method raises is told -/
theorem pe_mgx {X : Cx} {k j n : Nat} {C : Addr} {m : Str} {sp : Sp} {pos apos : Pos} {e o : Expr} {es : List Expr} {ta : TE} {t tk : TA} {ks : List Str} {kws : List Keyword} {gV : List V → List V → List V} {E : XK} {pl : Sem Bool} {W : WX}
    (c : MetG X.prog X.w X.K X.mg X.base (L2.CX X.prog X.w) k C m sp n ks gV) (taken : Takes X W) (hW : ∀ cls d σ H, E cls d H → W cls d σ H) (hr : Room j X.A) (hk : k ≤ j) (he : PE X o ta) (ha : PA X (e :: es) t) (hkw : PK X kws tk) (form : KwForm X pl o e es kws m apos pos ks := by exact ⟨rfl, rfl, rfl, rfl, rfl⟩) :
    PE X (.Call (.Attribute o m apos) (e :: es) kws pos) (tMethG C m n ks.length sp gV E ta t tk) := pe_mg c (passes_call taken hW) hr hk he ha hkw form
end Tw

set_option maxHeartbeats 4000000
namespace Tw
open PySem PySem.Spec PyProof.Rows L2
/-! tuples joined and cut: what stands at the told place -/
def rCatU : R2 := fun x y H Q => ∃ a b xs ys, x = .ref a ∧ y = .ref b ∧ H a = some (.tup xs) ∧ H b = some (.tup ys) ∧ xs.length + ys.length ≤ sizeLine ∧ ∀ p H', Same H H' → H' p = some (.tup (xs ++ ys)) → Q (.ref p) H'
theorem op_catU {X : Cx} : OpR X (binaryOp .Add) rCatU := by
  intro pins s σ H x y v u Q I rx ry h
  obtain ⟨a, b, xs, ys, rfl, rfl, ha, hb, hl, q⟩ := h
  refine op_catA pins s σ H _ _ v u Q I rx ry ⟨a, b, xs, ys, rfl, rfl, .inl (.inl ha), .inl (.inl hb), hl, fun e => ?_, fun _ e => ?_, fun _ _ p np => q p _ (same_upd np) upd_same⟩
  · exact q b H (Same.refl H) (by rw [hb, e]; rfl)
  · exact q a H (Same.refl H) (by rw [ha, e, List.append_nil])
def rSlU : V → Option Int → Option Int → Hp → VK → Prop := fun x lo hi H Q => ∃ a xs, x = .ref a ∧ H a = some (.tup xs) ∧ ∀ p H', Same H H' → H' p = some (.tup (cutV xs lo hi)) → Q (.ref p) H'
theorem sl_tupU {X : Cx} : SlR X rSlU := by
  intro pins s σ H x v vl vu lo hi sl Q I rx hs pl pu h
  obtain ⟨a, xs, rfl, ha, q⟩ := h
  refine sl_tupA pins s σ H _ v vl vu lo hi sl Q I rx hs pl pu ⟨a, xs, rfl, .inl (.inl ha), fun e => ?_, fun _ p np => q p _ (same_upd np) upd_same⟩
  refine q a H (Same.refl H) ?_
  rw [ha]
  unfold cutV
  rw [e.1, e.2, List.drop_zero, Nat.sub_zero, List.take_length]
end Tw

set_option maxHeartbeats 4000000
/-! == and != of own instances by an own __eq__ -/
namespace Tw
open PySem PySem.Spec PyProof.Rows L2
section
variable {X : Cx} {k j : Nat} {C : Addr} {sp : Sp}
/-- a == b by an own __eq__ -/
def rEqO (K : PySem.W.Frag) (C : Addr) (sp : Sp) : R2 := fun x y H Q => ∃ a dx fs t, x = .ref a ∧ H a = some (.ins C dx fs) ∧ TyX K H y t ∧ PySem.W.notFirst K C t = true ∧ sp [x, y] H (fun v H' => ∃ b : Bool, v = .bl b ∧ Q (.bl b) H') E0
theorem op_eqO (c : Met X.prog X.w X.K X.mg X.base k C "__eq__" sp) (hr : Room j X.A) (hk : k ≤ j) : OpR X (compareOp .Eq) (rEqO X.K C sp) := by
  rintro pins s σ H x y v u Q I rx ry ⟨a, dx, fs, t, rfl, here, ty, nf, q⟩
  cases (show _ = Value.ref a from rx)
  obtain ⟨Pt, kit, pt, _⟩ := kit_of I ry ty
  obtain ⟨f, hs, hf, F⟩ := own0 c
  obtain ⟨_, J0, _⟩ := ins_get I.hok here
  obtain ⟨_, J, _⟩ := J0.look
  obtain ⟨_, hF⟩ := I.fr
  have room : Room k X.A := hr.mono hk
  have ra : RelV (.ref a) (Value.ref a) := rfl
  refine PySem.W.cmp_ofEq (PySem.W.cmp_K room.units0 hF I.ok.mod.kin J (kit.ty _ _ I.kIn pt) nf hs hf (thn (wpAny_call (SlX.run_at F room I.env0 pass0 I (.cons ra (.cons ry .nil)) q)) ?_))
  rintro _ s1 ⟨_, H1, I1, rv, b, rfl, q1⟩
  cases (show _ = Value.bool b from rv)
  exact ⟨.bl b, H1, I1, rfl, q1⟩
end
section
variable {prog : Program} {w : World} {A : Around} {E : Value → Shared → Prop} {s : Shared} {K : PySem.W.Frag} {x C f : Addr} {ox : Obj} {od : Option Obj} {b tb : Value} {Q : Value → Shared → Prop}
/-- the comparison's slot that every object has: it asks an own __eq__ and turns the word around -/
theorem slot_ne (hK : K.In s.heap) (J : PySem.W.InstAt s.heap x ox C od) (hu1 : A.in1.units < cLine) (hs : PySem.W.findIn K (.ref C) "__eq__" = some (some (.ref f))) (hf : PySem.W.isFn K (.ref f) = true) (io : PySem.W.subIn K (.ref C) (.type "object") = some true)
    (h : wpAny (model prog w) A.in1 (call (.ref f) [.ref x, b]) (fun v s' => ∃ k, v = .bool k ∧ Q (.bool (!k)) s') E s) : wpAny (model prog w) A (call (.builtin "object.__ne__") [.ref x, b]) Q E s := by
  refine wpAny_call (codeAny_call_builtin (by decide +kernel) PySem.F.cmpEntry_ne ?_)
  refine PySem.W.check_slot PySem.F.cmpKind_ne PySem.F.cmpSplit_ne (fun A' Q' E' s' keep q' => ?_) (PySem.F.cmpArgs_ne _ _) ?_
  · unfold isInstance
    refine wpAny_bind (wpAny_typeOf_ref (keep _ _ J.at_) ?_)
    rw [J.cls]
    exact PySem.W.looks_subIn hK io _ _ _ _ keep q'
  · unfold Builtin.«object.__ne__»
    have e : slotArgs "__ne__" 1 { pos := [Value.ref x, b] } = pure (.ref x, [b]) := rfl
    rw [e]
    refine wpAny_bind (wpAny_pure ?_)
    refine wpAny_bind (wpAny_cRoomFor hu1 ?_)
    refine wpAny_bind (PySem.W.ifBound_K hK J hs hf (wpAny_mono h ?_ (fun _ _ z => z)))
    rintro _ s' ⟨k, rfl, q⟩
    refine wpAny_bind (wpAny_truthy_bool ?_)
    refine wpAny_pure ?_
    exact q
/-- a != b where C tells == alone -/
theorem ne_own (hK : K.In s.heap) (J : PySem.W.InstAt s.heap x ox C od) (hu : A.units < cLine) (hu1 : A.in1.units < cLine) (ty : PySem.W.Looks (model prog w) s.heap (typeOf b) tb) (nf : PySem.W.notFirst K C tb = true) (hn : PySem.W.findIn K (.ref C) "__ne__" = some (some (.builtin "object.__ne__")))
    (hs : PySem.W.findIn K (.ref C) "__eq__" = some (some (.ref f))) (hf : PySem.W.isFn K (.ref f) = true) (io : PySem.W.subIn K (.ref C) (.type "object") = some true)
    (h : wpAny (model prog w) A.in1 (call (.ref f) [.ref x, b]) (fun v s' => ∃ k, v = .bool k ∧ Q (.bool (!k)) s') E s) : wpAny (model prog w) A (compareOp .NotEq (.ref x) b) Q E s := by
  have slot : wpAny (model prog w) A (tryCompare (.ref x) "__ne__" b) (fun r s' => ∃ k : Bool, r = some (.bool k) ∧ Q (.bool k) s') E s := by
    unfold tryCompare callSpecialIfBound? bindSpecialIfBound? specialOf
    have bind : ∀ self, bindSpecial (.builtin "object.__ne__") self = pure (.builtin "object.__ne__", [self]) := PySem.F.cmp_object.ne.bind
    refine wpAny_bind (wpAny_holding (wpAny_bind (wpAny_bind (wpAny_bind (wpAny_typeOf_ref J.at_ ?_)))))
    rw [J.cls]
    refine PySem.W.looks_findIn hK hn _ _ _ _ (fun _ _ z => z) ?_
    dsimp only
    rw [bind]
    have fin : wpAny (model prog w) A (call (.builtin "object.__ne__") [.ref x, b]) (fun v s' => ∃ k : Bool, v = .bool k ∧ Q (.bool k) s') E s := slot_ne hK J hu1 hs hf io (wpAny_mono h (fun v s' ⟨k, e, q⟩ => ⟨k, e, _, rfl, q⟩) (fun _ _ z => z))
    refine wpAny_bind (wpAny_askSetting ?_)
    have last : wpAny (model prog w) A (call (.builtin "object.__ne__") ([.ref x] ++ [b]) >>= fun v => pure (some v)) (fun a s' => wpAny (model prog w) A (match a with
      | some .notImplemented => pure none
      | none => pure none
      | some v => pure (some v)) (fun r s' => ∃ k : Bool, r = some (.bool k) ∧ Q (.bool k) s') E s') E s :=
      wpAny_bind (wpAny_mono fin (fun v s' ⟨k, e, q⟩ => by
        subst e
        exact wpAny_pure (wpAny_pure ⟨k, rfl, q⟩)) (fun _ _ z => z))
    split
    · exact wpAny_bind (wpAny_pure (wpAny_pure last))
    · exact wpAny_tryCatch (wpAny_bind (wpAny_pure (wpAny_pure last)))
  refine PySem.W.cmp_ofNotEq ?_
  unfold richCompare
  refine wpAny_holding (wpAny_bind (wpAny_cRoomFor hu ?_))
  have e1 : oneThing? .NotEq (.ref x) b = none := rfl
  rw [e1]
  dsimp only [cmpInfo]
  refine wpAny_bind (wpAny_typeOf_ref J.at_ ?_)
  rw [J.cls]
  refine wpAny_bind (ty _ _ _ _ (fun _ _ z => z) ?_)
  have or_ : tb = .ref C ∨ PySem.W.subIn K tb (.ref C) = some false := by
    rcases Bool.or_eq_true _ _ ▸ nf with e | e
    · exact .inl (eq_of_beq e)
    · exact .inr (eq_of_beq e)
  split
  · rename_i ne
    refine wpAny_bind ?_
    refine PySem.W.looks_subIn hK (or_.resolve_left fun e => ?_) _ _ _ _ (fun _ _ z => z) ?_
    · subst e
      simp at ne
    · rw [if_neg Bool.false_ne_true]
      refine wpAny_bind (wpAny_mono slot ?_ (fun _ _ z => z))
      rintro _ s' ⟨k, rfl, q⟩
      exact wpAny_pure q
  · refine wpAny_bind (wpAny_pure ?_)
    rw [if_neg Bool.false_ne_true]
    refine wpAny_bind (wpAny_mono slot ?_ (fun _ _ z => z))
    rintro _ s' ⟨k, rfl, q⟩
    exact wpAny_pure q
end
section
variable {X : Cx} {k j : Nat} {C : Addr} {sp : Sp}
/-- a != b by an own __eq__ -/
def rNeO (K : PySem.W.Frag) (C : Addr) (sp : Sp) : R2 := fun x y H Q => ∃ a dx fs t, x = .ref a ∧ H a = some (.ins C dx fs) ∧ TyX K H y t ∧ PySem.W.notFirst K C t = true ∧ sp [x, y] H (fun v H' => ∃ b : Bool, v = .bl b ∧ Q (.bl (!b)) H') E0
theorem op_neO (c : Met X.prog X.w X.K X.mg X.base k C "__eq__" sp) (hn : PySem.W.findIn X.K (.ref C) "__ne__" = some (some (.builtin "object.__ne__"))) (io : PySem.W.subIn X.K (.ref C) (.type "object") = some true) (hr : Room j X.A) (hk : k + 1 ≤ j) : OpR X (compareOp .NotEq) (rNeO X.K C sp) := by
  rintro pins s σ H x y v u Q I rx ry ⟨a, dx, fs, t, rfl, here, ty, nf, q⟩
  cases (show _ = Value.ref a from rx)
  obtain ⟨Pt, kit, pt, _⟩ := kit_of I ry ty
  obtain ⟨f, hs, hf, F⟩ := own0 c
  obtain ⟨_, J0, _⟩ := ins_get I.hok here
  obtain ⟨_, J, _⟩ := J0.look
  have room : Room k X.A.in1 := (hr.mono hk).in1
  have ra : RelV (.ref a) (Value.ref a) := rfl
  refine ne_own I.kIn J hr.units0 room.units0 (kit.ty _ _ I.kIn pt) nf hn hs hf io (thn (wpAny_call (SlX.run_at F room I.env0.in1 pass0 I (.cons ra (.cons ry .nil)) q)) ?_)
  rintro _ s1 ⟨_, H1, I1, rv, b, rfl, q1⟩
  exact ⟨b, rv, .bl (!b), H1, I1, rfl, q1⟩
end
end Tw

set_option maxHeartbeats 4000000
/-! x in [y], y an own instance with an own __eq__ -/
namespace Tw
open PySem PySem.Spec PyProof.Rows L2
section
variable {prog : Program} {w : World} {A : Around} {E : Value → Shared → Prop} {s : Shared}
/-- two things of different places asked whether they are the same -/
theorem eq_two {y x : Addr} {Q : Bool → Shared → Prop} (ne : y ≠ x) (h : wpAny (model prog w) A (richCompare .Eq (.ref y) (.ref x)) (fun v s' => ∃ b, v = .bool b ∧ Q b s') E s) : wpAny (model prog w) A (eqBool (.ref y) (.ref x)) Q E s := by
  unfold eqBool
  have e : (Value.ref y == Value.ref x) = false := beq_eq_false_iff_ne.mpr fun e => ne (Value.ref.inj e)
  refine wpAny_holding ?_
  rw [e]
  refine wpAny_bind (wpAny_mono h ?_ fun _ _ z => z)
  rintro _ s' ⟨b, rfl, q⟩
  unfold truthOfDropped
  exact wpAny_truthy_bool q
def OneL (l y : Addr) (s : Shared) : Prop := ∃ n dd sl, s.heap.get? l = some { cls := .type "list", dict := dd, data := .seq #[.ref y] n, slots := sl }
/-- what the walk asks: the one item, and that the list still stands behind it -/
def askOne (prog : Program) (w : World) (l y x : Addr) : PySem.Spec := fun A R s => OneL l y s ∧ wpAny (model prog w) A.in1 (eqBool (.ref y) (.ref x)) (fun b s' => OneL l y s' ∧ R (.ok (.ret (.bool b))) s') (fun e s' => R (.error e) s') s
theorem walk_last (l y x : Addr) : MeetsIn prog w (Builtin.«list.__contains__.loop» ⟨[.ref l, .ref x, rawInt (1 : Int)], []⟩) (fun _ R s => OneL l y s ∧ R (.ok (.ret (.bool false))) s) := by
  rintro A R s ⟨⟨n, dd, sl, hl⟩, q⟩
  obtain ⟨hp, g, d, tk, os⟩ := s
  wp_walk using AutoSeq1.wpAny_loadPart' hl
  exact q
theorem walk_one (l y x : Addr) : MeetsIn prog w (Builtin.«list.__contains__.loop» ⟨[.ref l, .ref x, rawInt (0 : Int)], []⟩) (askOne prog w l y x) := by
  rintro A R s ⟨⟨n, dd, sl, hl⟩, h⟩
  obtain ⟨hp, g, d, tk, os⟩ := s
  obtain ⟨items, hit⟩ : ∃ items, items = #[Value.ref y] := ⟨_, rfl⟩
  rw [← hit] at hl
  wp_walk using AutoSeq1.wpAny_loadPart' hl
  have hi : items[(0 : Int).toNat]? = some (.ref y) := by
    rw [hit]
    rfl
  rw [hi]
  refine wpAny_bind (wpAny_mono h ?_ fun _ _ z => z)
  rintro b s1 ⟨one, q⟩
  cases b with
  | true =>
    wp_walk
    exact q
  | false =>
    wp_walk
    exact ⟨plainId_quiet MeetsSeq.plain_contains_loop _, codeAny_builtin MeetsSeq.entry_contains_loop (by
      rw [Around.under_plainId MeetsSeq.plain_contains_loop _]
      exact walk_last l y x A R _ ⟨one, q⟩)⟩
theorem walk_in (l y x : Addr) : MeetsIn prog w (Builtin.«list.__contains__» ⟨[.ref l, .ref x], []⟩) (askOne prog w l y x) := by
  rintro A R s ⟨⟨n, dd, sl, hl⟩, h⟩
  obtain ⟨hp, g, d, tk, os⟩ := s
  wp_walk
  exact ⟨plainId_quiet MeetsSeq.plain_contains_loop _, codeAny_builtin MeetsSeq.entry_contains_loop (by
    rw [Around.under_plainId MeetsSeq.plain_contains_loop _]
    exact walk_one l y x A R _ ⟨⟨n, dd, sl, hl⟩, h⟩)⟩
/-- the list's walk of one item -/
theorem in_one {l y x : Addr} {Q : Value → Shared → Prop} (hl : OneL l y s)
    (h : wpAny (model prog w) A.in1 (eqBool (.ref y) (.ref x)) (fun b s' => OneL l y s' ∧ Q (.bool b) s') E s) : wpAny (model prog w) A (compareOp .In (.ref x) (.ref l)) Q E s := by
  show wpAny _ A (do return .bool (← contains (.ref l) (.ref x))) Q E s
  have hT : s.TypeIs (.ref l) "list" := let ⟨_, _, _, e⟩ := hl; ⟨_, e, rfl⟩
  refine wpAny_bind (wpAny_contains_slot hT F.slot_list_contains (call_meetsIn F.slot_list_contains hT F.entry_list_contains (F.args_list_contains_2 _ _) (walk_in l y x) ⟨hl, wpAny_mono h ?_ fun _ _ z => z⟩))
  rintro b s' ⟨one, q⟩
  exact ⟨one, wpAny_truthy_bool (wpAny_pure q)⟩
end
section
variable {X : Cx} {k j : Nat} {C : Addr} {sp : Sp}
/-- x in [y], by y's own __eq__ -/
def rInO (K : PySem.W.Frag) (C : Addr) (sp : Sp) : R2 := fun x y H Q => ∃ a l b dx fs t, x = .ref a ∧ y = .ref l ∧ H l = some (.lst [.ref b]) ∧ b ≠ a ∧ H b = some (.ins C dx fs) ∧ TyX K H x t ∧ PySem.W.notFirst K C t = true ∧ sp [.ref b, x] H (fun v H' => ∃ o : Bool, v = .bl o ∧ H' l = some (.lst [.ref b]) ∧ Q (.bl o) H') E0
theorem op_inO (c : Met X.prog X.w X.K X.mg X.base k C "__eq__" sp) (hr : Room j X.A) (hk : k + 1 ≤ j) : OpR X (compareOp .In) (rInO X.K C sp) := by
  rintro pins s σ H x y v u Q I rx ry ⟨a, l, b, dx, fs, t, rfl, rfl, hl, ne, here, ty, nf, q⟩
  cases (show _ = Value.ref a from rx)
  cases (show _ = Value.ref l from ry)
  obtain ⟨Pt, kit, pt, _⟩ := kit_of I rx ty
  obtain ⟨f, hs, hf, F⟩ := own0 c
  obtain ⟨_, J0, _⟩ := ins_get I.hok here
  obtain ⟨_, J, _⟩ := J0.look
  obtain ⟨_, hF⟩ := I.fr
  have room : Room k X.A.in1 := (hr.mono hk).in1
  have ra : RelV (.ref b) (Value.ref b) := rfl
  have one : ∀ {pins s σ H}, Inv X pins σ H s → H l = some (.lst [.ref b]) → OneL l b s := fun {pins s σ H} I h => by
    obtain ⟨its, r, pl, hz⟩ := I.list (.inl (.inl h))
    obtain ⟨⟨cls, dd, data, sl⟩, ho, hc, n, hd⟩ := id pl.isList
    dsimp only at hc hd
    subst hc hd
    obtain ⟨u, rfl, ru⟩ := vals1 r
    cases ru
    exact ⟨n, dd, sl, ho⟩
  refine in_one (one I hl) (eq_two ne (PySem.W.cmp_K room.units0 hF I.ok.mod.kin J (kit.ty _ _ I.kIn pt) nf hs hf (thn (wpAny_call (SlX.run_at F room I.env0.in1 pass0 I (.cons ra (.cons rx .nil)) q)) ?_)))
  rintro _ s1 ⟨_, H1, I1, rv, o, rfl, hl1, q1⟩
  cases (show _ = Value.bool o from rv)
  exact ⟨_, rfl, one I1 hl1, .bl o, H1, I1, rfl, q1⟩
end
end Tw

set_option maxHeartbeats 4000000
/-! isinstance(e, C) of a caught exception of just the class C -/
namespace Tw
open PySem PySem.Spec PyProof.Rows L2
section
variable {prog : Program} {w : World} {A : Around} {E : Value → Shared → Prop} {s : Shared}
def JustC (x C : Addr) (s : Shared) : Prop := ∃ o, s.heap.get? x = some o ∧ o.cls = .ref C
theorem nested_just (x C : Addr) : Meets (Builtin.«isinstance.nested» ⟨[.ref x, .ref C, rawInt 0], []⟩) (fun _ R s => JustC x C s ∧ R (.ok (.ret (.bool true))) s) := by
  rintro prog w A R s ⟨⟨o, h, e⟩, q⟩
  unfold Builtin.«isinstance.nested»
  refine wpAny_bind (wpAny_typeOf_ref h ?_)
  rw [e, if_pos (by exact beq_self_eq_true _)]
  exact wpAny_bind (wpAny_rule (wpAny_pure q))
theorem isi_just {x C : Addr} {Q : Value → Shared → Prop} (h : JustC x C s) (q : Q (.bool true) s) : wpAny (model prog w) A (call (.builtin "isinstance") [.ref x, .ref C]) Q E s :=
  call_isinstance (S := fun _ R s => JustC x C s ∧ R (.ok (.ret (.bool true))) s) (fun prog w A R s hs => isinstance_outer (nested_just x C prog w A R s hs) (fun e => nomatch e)) ⟨h, q⟩
end
theorem call_isJ {X : Cx} {a C : Addr} {oe : Obj} {cls : Value} {d : Option Addr} {pn : List (Addr × Obj)} (hz : Zc cls d oe) : CallR (X.suite a ((a, oe) :: pn)) (.builtin "isinstance") (fun xs H Q => xs = [.ref a, .ref C] ∧ cls = .ref C ∧ Q (.bl true) H) := by
  rintro pins s σ H xs us Q I r ⟨rfl, e, q⟩
  obtain ⟨u1, u2, rfl, r1, r2⟩ := vals2 r
  cases r1
  cases r2
  have caught : s.heap.get? a = some oe := (I.pin (a, oe) (by simp)).1
  exact isi_just ⟨oe, caught, hz.1.trans e⟩ ⟨.bl true, H, I, rfl, q⟩
end Tw

set_option maxHeartbeats 4000000
namespace Tw
open PySem PySem.Spec PyProof.Rows L2
theorem flat_strs (l : List Str) : (l.map V.str).all flatV = true := by
  rw [List.all_map]
  exact List.all_eq_true.mpr fun _ _ => rfl
theorem in_strs (z : Str) (l : List Str) : inV (.str z) (l.map V.str) = decide (z ∈ l) := by
  unfold inV
  rw [List.any_map]
  induction l with
  | nil => rfl
  | cons a r ih =>
    rw [List.any_cons, ih]
    have e : ((fun y => eqV y (.str z)) ∘ V.str) a = decide (z = a) := by
      show (a == z) = decide (z = a)
      by_cases h : z = a
      · subst h
        simp
      · rw [decide_eq_false h]
        exact beq_eq_false_iff_ne.mpr fun q => h q.symm
    rw [e]
    simp only [List.mem_cons]
    by_cases h : z = a <;> simp [h]
section
variable {P : Program} {w : World} {K : PySem.W.Frag} {mg : Str → Option Value} {base : Heap}
/-! ### is_number, is_whole, is_one_of -/
/-- None, a truth, an int or a text: its kind -/
def plK : V → Option String
  | .non => some "NoneType"
  | .bl _ => some "bool"
  | .int _ => some "int"
  | .str _ => some "str"
  | _ => none
theorem plK_ty {H : Hp} {v : V} {a : String} (h : plK v = some a) : TyX K H v (.type a) ∧ a ∈ kinds := by
  cases v with
  | non => cases h; exact ⟨.base .non, by decide⟩
  | bl b => cases h; exact ⟨.base (.bl _), by decide⟩
  | int i => cases h; exact ⟨.base (.int _), by decide⟩
  | str z => cases h; exact ⟨.base (.str _), by decide⟩
  | byt b => cases h
  | flt b => cases h
  | ref b => cases h
  | ty b => cases h
def numB (a : String) : Bool := kitT a "int" && !kitT a "bool"
def sp_is_number : Sp := fun vs H Q _ => ∃ (v : V) (a : String), vs = [v] ∧ plK v = some a ∧ Q (.bl (numB a)) H
theorem cal_is_number (T : Tp K mg) : Cal P w K mg base 1 "is_number" sp_is_number := by
  obtain ⟨fd, F⟩ := f_is_number T
  refine cal_of F (g_is_number T) (b_is_number F) sc_is_number (fun vs H Q E h => ?_) (fun cdv A outer s H vs Q E hr h => ?_)
  · obtain ⟨v, a, rfl, _⟩ := h
    rfl
  · obtain ⟨v, a, rfl, hk, q⟩ := h
    obtain ⟨ty, ha⟩ := plK_ty (K := K) (H := H) hk
    refine ⟨_, (pss_one (ps_ret (pe_and (pe_callB call_isK (by rfl) (z_isinstance T) bb_isinstance (pa_cons (pv 0) (pa_cons (pe_bltn (v := .ty "int") (by rfl) (z_int T) bb_int rfl) pa_nil))) (pe_one (pe_not (pe_callB call_isK (by rfl) (z_isinstance T) bb_isinstance (pa_cons (pv 0) (pa_cons (pe_bltn (v := .ty "bool") (by rfl) (z_bool T) bb_bool rfl) pa_nil)))))))), ?_⟩
    refine ⟨_, rfl, _, "int", a, rfl, ty, ha, by decide, _, rfl, ?_⟩
    unfold numB at q
    cases e : kitT a "int" with
    | true =>
      rw [e] at q
      exact iteT ⟨_, rfl, _, "bool", a, rfl, ty, ha, by decide, _, rfl, q⟩
    | false =>
      rw [e] at q
      exact iteF q
def sp_is_whole : Sp := fun vs H Q _ => ∃ (i lo hi : Int), vs = [.int i, .int lo, .int hi] ∧ Q (.bl (decide (lo ≤ i ∧ i ≤ hi))) H
theorem cal_is_whole (T : Tp K mg) : Cal P w K mg base 2 "is_whole" sp_is_whole := by
  obtain ⟨fd, F⟩ := f_is_whole T
  refine cal_of F (g_is_whole T) (b_is_whole F) sc_is_whole (fun vs H Q E h => ?_) (fun cdv A outer s H vs Q E hr h => ?_)
  · obtain ⟨i, lo, hi, rfl, _⟩ := h
    rfl
  · obtain ⟨i, lo, hi, rfl, q⟩ := h
    refine ⟨_, (pss_one (ps_ret (pe_and (C8.pe_c (cal_is_number T) hr (by decide) rfl (pa_cons (pv 0) pa_nil)) (pe_one (pe_chain op_le op_le (pv 1) (pv 0) (pv 2)))))), ?_⟩
    refine ⟨_, rfl, .int i, "int", rfl, rfl, _, rfl, ?_⟩
    refine iteT ⟨_, rfl, _, rfl, _, _, rfl, rfl, _, rfl, ite2 (fun e => ?_) (fun e => ?_)⟩
    · have e1 : lo ≤ i := of_decide_eq_true e
      refine ⟨_, rfl, _, _, rfl, rfl, ?_⟩
      have e2 : decide (lo ≤ i ∧ i ≤ hi) = decide (i ≤ hi) := by simp [e1]
      rw [e2] at q
      exact q
    · have e1 : ¬ lo ≤ i := fun z => e (decide_eq_true z)
      have e2 : decide (lo ≤ i ∧ i ≤ hi) = false := by simp [e1]
      rw [e2] at q
      exact q
/-- is_whole of any plain value -/
def whB (lo hi : Int) : V → Bool
  | .int i => decide (lo ≤ i ∧ i ≤ hi)
  | _ => false
def sp_iswh : Sp := fun vs H Q _ => ∃ (v : V) (lo hi : Int), vs = [v, .int lo, .int hi] ∧ (plK v).isSome = true ∧ Q (.bl (whB lo hi v)) H
theorem cal_iswh (T : Tp K mg) : Cal P w K mg base 2 "is_whole" sp_iswh := by
  obtain ⟨fd, F⟩ := f_is_whole T
  refine cal_of F (g_is_whole T) (b_is_whole F) sc_is_whole (fun vs H Q E h => ?_) (fun cdv A outer s H vs Q E hr h => ?_)
  · obtain ⟨v, lo, hi, rfl, _⟩ := h
    rfl
  · obtain ⟨v, lo, hi, rfl, hk, q⟩ := h
    refine ⟨_, (pss_one (ps_ret (pe_and (C8.pe_c (cal_is_number T) hr (by decide) rfl (pa_cons (pv 0) pa_nil)) (pe_one (pe_chain op_le op_le (pv 1) (pv 0) (pv 2)))))), ?_⟩
    cases v with
    | non => exact ⟨_, rfl, .non, "NoneType", rfl, rfl, _, rfl, iteF q⟩
    | bl b => exact ⟨_, rfl, .bl b, "bool", rfl, rfl, _, rfl, iteF q⟩
    | str z => exact ⟨_, rfl, .str z, "str", rfl, rfl, _, rfl, iteF q⟩
    | byt b => cases hk
    | flt b => cases hk
    | ref b => cases hk
    | ty b => cases hk
    | int i =>
      refine ⟨_, rfl, .int i, "int", rfl, rfl, _, rfl, ?_⟩
      refine iteT ⟨_, rfl, _, rfl, _, _, rfl, rfl, _, rfl, ite2 (fun e => ?_) (fun e => ?_)⟩
      · have e1 : lo ≤ i := of_decide_eq_true e
        refine ⟨_, rfl, _, _, rfl, rfl, ?_⟩
        have e2 : decide (lo ≤ i ∧ i ≤ hi) = decide (i ≤ hi) := by simp [e1]
        have q : Q (.bl (decide (lo ≤ i ∧ i ≤ hi))) H := q
        rw [e2] at q
        exact q
      · have e1 : ¬ lo ≤ i := fun z => e (decide_eq_true z)
        have e2 : decide (lo ≤ i ∧ i ≤ hi) = false := by simp [e1]
        have q : Q (.bl (decide (lo ≤ i ∧ i ≤ hi))) H := q
        rw [e2] at q
        exact q
def sp_is_one_of : Sp := fun vs H Q _ => ∃ (z : Str) (p : Addr) (l : List Str), vs = [.str z, .ref p] ∧ H p = some (.lst (l.map V.str)) ∧ Q (.bl (decide (z ∈ l))) H
theorem cal_is_one_of (T : Tp K mg) : Cal P w K mg base 1 "is_one_of" sp_is_one_of := by
  obtain ⟨fd, F⟩ := f_is_one_of T
  refine cal_of F (g_is_one_of T) (b_is_one_of F) sc_is_one_of (fun vs H Q E h => ?_) (fun cdv A outer s H vs Q E hr h => ?_)
  · obtain ⟨z, p, l, rfl, _⟩ := h
    rfl
  · obtain ⟨z, p, l, rfl, hp, q⟩ := h
    refine ⟨_, (pss_one (ps_ret (pe_and (pe_callB call_isK (by rfl) (z_isinstance T) bb_isinstance (pa_cons (pv 0) (pa_cons (pe_bltn (v := .ty "str") (by rfl) (z_str T) bb_str rfl) pa_nil))) (pe_one (pe_cmpR op_in_seq (pv 0) (pv 1) (by rfl)))))), ?_⟩
    refine ⟨_, rfl, _, "str", "str", rfl, .base (.str _), by decide, by decide, _, rfl, iteT ⟨_, rfl, _, rfl, p, _, rfl, .inl (.inl (.inl hp)), rfl, flat_strs _, ?_⟩⟩
    show Q (.bl (inV (.str z) (l.map V.str))) _
    rw [in_strs]
    exact q
/-! ### is_name -/
def sp_is_name : Sp := fun vs H Q _ => ∃ z : Str, vs = [.str z] ∧ Nm z ∧ ∀ H', Same H H' → Q (.bl true) H'
theorem cal_is_name (T : Tp K mg) : Cal P w K mg base 2 "is_name" sp_is_name := by
  obtain ⟨fd, F⟩ := f_is_name T
  refine cal_of F (g_is_name T) (b_is_name F) sc_is_name (fun vs H Q E h => ?_) (fun cdv A outer s H vs Q E hr h => ?_)
  · obtain ⟨z, rfl, _⟩ := h
    rfl
  · obtain ⟨z, rfl, ⟨n1, n2, n3⟩, q⟩ := h
    refine ⟨_, (pss_cons (ps_if (PW.pt (pw_or (pt_not (pt_val (pe_callB call_isK (by rfl) (z_isinstance T) bb_isinstance (pa_cons (pv 0) (pa_cons (pe_bltn (v := .ty "str") (by rfl) (z_str T) bb_str rfl) pa_nil))))) (pw_or1 (pt_not (pt_chain op_le op_le pe_int (pe_callB call_len_str (by rfl) (z_len T) bb_len (pa_cons (pv 0) pa_nil)) (C8.pe_gc (by rfl) (c_LONGEST_NAME T))))))) (pss_one (ps_ret pe_bl)) pss_nil)
      (pss_one (ps_ret (pe_callB (cr_all rfl) (by rfl) (z_all T) bb_all (pa_cons (pe_lc (own := [("letter", 1)]) (g := gName 1) (tt := tYes) rfl sc_is_name.nd (pi_str (pv 0)) (blkOk_by (N := N_is_name) (sc := defScope s_is_name) (by decide +kernel)) (fun _ _ _ _ _ => (pg_name (i := 1) sc_is_name.nd rfl (.inl rfl))) (fun _ _ _ _ _ => pts_nil) (fun _ _ _ _ _ => (pe_cmpR op_in_sign (pv 1) (C8.pe_gc (by rfl) (c_LETTERS T)) (by rfl)))) pa_nil))))), ?_⟩
    refine ⟨_, rfl, _, "str", "str", rfl, .base (.str _), by decide, by decide, _, rfl, ?_⟩
    refine iteF ⟨_, rfl, _, rfl, Nat.le_trans n2 (by decide), _, _, rfl, rfl, _, rfl, ?_⟩
    have e1 : decide ((1 : Int) ≤ (z.length : Int)) = true := decide_eq_true (by omega)
    rw [e1]
    refine iteT ⟨_, _, rfl, rfl, _, rfl, ?_⟩
    have e2 : decide ((z.length : Int) ≤ 8) = true := decide_eq_true (by omega)
    rw [e2]
    refine iteF ?_
    refine ⟨_, rfl, _, rfl, fun D nD => ?_⟩
    refine lc_it walk_str (fun i H1 => Same H H1 ∧ H1 D = some (.lst ((List.replicate i true).map V.bl))) ⟨same_upd nD, upd_same⟩ (fun _ _ _ _ => trivial) ?_ ?_
    · rintro i x H1 H2 hi ⟨s1, d1⟩ ⟨rfl, c, hc, rfl⟩
      refine ⟨rfl, yes_i (iteT ⟨_, rfl, c, letters, rfl, rfl, ?_⟩)⟩
      have hcm : c ∈ z.cps.toList := by
        obtain ⟨hi', hc'⟩ := Array.getElem?_eq_some_iff.mp hc
        rw [← hc']
        exact Array.mem_toList_iff.mpr (Array.getElem_mem hi')
      refine ⟨_, d1, ?_, ?_, ?_⟩
      · rw [List.length_map, List.length_replicate]
        have : z.cps.size = z.length := rfl
        exact small1000 (by omega)
      · exact fun b o e => by
          rw [upd_ne (ne_of_none e nD)]
          exact s1 b o e
      · rw [upd_same, decide_eq_true (n3 c hcm), List.replicate_succ', List.map_append]
        rfl
    · rintro H1 ⟨s1, d1⟩
      refine ⟨D, List.replicate z.cps.size true, rfl, .inl (.inl d1), ?_⟩
      rw [show (List.replicate z.cps.size true).all id = true by simp]
      exact q H1 s1
end
end Tw

set_option maxHeartbeats 4000000
namespace Tw
open PySem PySem.Spec PyProof.Rows L2
/-! ### attributes stored -/
theorem ne_mb : ¬ (("by" : Str) = "moment_rows") := by decide +kernel
theorem ne_sb : ¬ (("by" : Str) = "span_rows") := by decide +kernel
theorem ne_tb : ¬ (("by" : Str) = "tie_rows") := by decide +kernel
theorem ne_sm : ¬ (("moment_rows" : Str) = "span_rows") := by decide +kernel
theorem ne_tm : ¬ (("moment_rows" : Str) = "tie_rows") := by decide +kernel
theorem ne_ts : ¬ (("span_rows" : Str) = "tie_rows") := by decide +kernel
theorem pf0 {v : V} : putF "by" v ([] : List (Str × V)) = ([("by", v)] : List (Str × V)) := rfl
theorem pf1 {v x : V} : putF "moment_rows" v ([("by", x)] : List (Str × V)) = ([("by", x), ("moment_rows", v)] : List (Str × V)) := by
  simp only [putF, if_neg ne_mb]
theorem pf2 {v x y : V} : putF "span_rows" v ([("by", x), ("moment_rows", y)] : List (Str × V)) = ([("by", x), ("moment_rows", y), ("span_rows", v)] : List (Str × V)) := by
  simp only [putF, if_neg ne_sb, if_neg ne_sm]
theorem pf3 {v x y z : V} : putF "tie_rows" v ([("by", x), ("moment_rows", y), ("span_rows", z)] : List (Str × V)) = ([("by", x), ("moment_rows", y), ("span_rows", z), ("tie_rows", v)] : List (Str × V)) := by
  simp only [putF, if_neg ne_tb, if_neg ne_tm, if_neg ne_ts]
theorem wf_pm {l : Int} {a b c d : Addr} : putF "moment_rows" (.ref d) (wf l a b c) = wf l d b c := by
  unfold wf
  simp only [putF, if_neg ne_mb, if_true]
theorem wf_ps {l : Int} {a b c d : Addr} : putF "span_rows" (.ref d) (wf l a b c) = wf l a d c := by
  unfold wf
  simp only [putF, if_neg ne_sb, if_neg ne_sm, if_true]
theorem wf_pt {l : Int} {a b c d : Addr} : putF "tie_rows" (.ref d) (wf l a b c) = wf l a b d := by
  unfold wf
  simp only [putF, if_neg ne_tb, if_neg ne_tm, if_neg ne_ts, if_true]
theorem up_eq {H : Hp} {p : Addr} {o u : HO} (h : o = u) : (upd H p o) p = some u := by
  rw [upd_same, h]
section
variable {P : Program} {w : World} {K : PySem.W.Frag} {mg : Str → Option Value} {base : Heap}
abbrev CW (K : PySem.W.Frag) : Addr := He.ga K "Web"
/-! ### Web.__init__ -/
def sp_init (K : PySem.W.Frag) : Sp := fun vs H Q _ => ∃ (p dx : Addr) (l : Int), vs = [.ref p, .int l] ∧ H p = some (.ins (CW K) dx []) ∧ 1 ≤ l ∧ l ≤ 1000 ∧
  ∀ (a b c : Addr) (H' : Hp), (∀ x o, H x = some o → x ≠ p → H' x = some o) → H' p = some (.ins (CW K) dx (wf l a b c)) → H' a = some (.tup []) → H' b = some (.tup []) → H' c = some (.tup []) → Q .non H'
theorem fn_init (T : Tp K mg) {fd : FuncData} (F : FunD K "__init__" "Web.__init__" (defArgs s_Web_UinitU) (defBody s_Web_UinitU) (defScope s_Web_UinitU) [(V.int 100 : V)] [] (He.ma K (He.ga K "Web") "__init__") fd) :
    FnOk P w K mg base CX0 3 (He.ma K (He.ga K "Web") "__init__") fd ["self", "by"] (sp_init K) := by
  refine fnok_of F sc_Web_UinitU (fun vs H Q E h => ?_) (fun cdv A outer s H vs Q E hr h => ?_)
  · obtain ⟨p, dx, l, rfl, _⟩ := h
    rfl
  · obtain ⟨p, dx, l, rfl, hp, l1, l2, q⟩ := h
    refine ⟨_, (pss_cons (ps_if (pt_not (pt_val (C8.pe_c (cal_is_whole T) hr (by decide) rfl (pa_cons (pv 1) (pa_cons pe_int (pa_cons (C8.pe_gc (by rfl) (c_MOST_BY T)) pa_nil)))))) (pss_one ps_never) pss_nil)
      (pss_cons (ps_fld (pv 0) (pv 1) rfl)
      (pss_cons (ps_fld (pv 0) (pe_tup pa_nil) rfl)
      (pss_cons (ps_fld (pv 0) (pe_tup pa_nil) rfl)
      (pss_one (ps_fld (pv 0) (pe_tup pa_nil) rfl)))))), ?_⟩
    refine ⟨_, rfl, l, 1, 1000, rfl, _, rfl, ?_⟩
    rw [decide_eq_true (show (1 : Int) ≤ l ∧ l ≤ 1000 from ⟨l1, l2⟩)]
    refine iteF ?_
    -- self.by = by
    refine ⟨_, rfl, _, rfl, p, CW K, dx, [], rfl, hp, cl_Web T, na_by T, (by show 0 < 1000; decide), ?_⟩
    -- the three rows
    refine ⟨Nat.zero_le _, fun a na => ?_⟩
    have npa : p ≠ a := fun e => by
      rw [← e, upd_same] at na
      cases na
    refine ⟨_, rfl, p, CW K, dx, _, rfl, (by rw [upd_ne npa]; exact up_eq rfl), cl_Web T, na_moment_rows T, (by show 1 < 1000; decide), ?_⟩
    refine ⟨Nat.zero_le _, fun b nb => ?_⟩
    have npb : p ≠ b := fun e => by
      rw [← e, upd_same] at nb
      cases nb
    have nab : a ≠ b := fun e => by
      rw [← e, upd_ne npa.symm, upd_same] at nb
      cases nb
    refine ⟨_, rfl, p, CW K, dx, _, rfl, (by rw [upd_ne npb]; exact up_eq rfl), cl_Web T, na_span_rows T, (by rw [pf0, pf1]; show 2 < 1000; decide), ?_⟩
    refine ⟨Nat.zero_le _, fun c nc => ?_⟩
    have npc : p ≠ c := fun e => by
      rw [← e, upd_same] at nc
      cases nc
    have nbc : b ≠ c := fun e => by
      rw [← e, upd_ne npb.symm, upd_same] at nc
      cases nc
    have nac : a ≠ c := fun e => by
      rw [← e, upd_ne npa.symm, upd_ne nab, upd_ne npa.symm, upd_same] at nc
      cases nc
    refine ⟨_, rfl, p, CW K, dx, _, rfl, (by rw [upd_ne npc]; exact up_eq rfl), cl_Web T, na_tie_rows T, (by rw [pf0, pf1, pf2]; show 3 < 1000; decide), ?_⟩
    refine q a b c _ (fun x o e hx => ?_) (up_eq (by rw [pf0, pf1, pf2, pf3]; rfl)) ?_ ?_ ?_
    · have ea : (upd H p (.ins (CW K) dx (putF "by" (.int l) []))) x = some o := by
        rw [upd_ne hx]
        exact e
      have nxa : x ≠ a := ne_of_none ea na
      have eb : (upd (upd (upd H p (.ins (CW K) dx (putF "by" (.int l) []))) a (.tup [])) p (.ins (CW K) dx (putF "moment_rows" (.ref a) (putF "by" (.int l) [])))) x = some o := by
        rw [upd_ne hx, upd_ne nxa]
        exact ea
      have nxb : x ≠ b := ne_of_none eb nb
      have nxc : x ≠ c := ne_of_none (by rw [upd_ne hx, upd_ne nxb]; exact eb) nc
      rw [upd_ne hx, upd_ne nxc, upd_ne hx, upd_ne nxb]
      exact eb
    · rw [upd_ne npa.symm, upd_ne nac, upd_ne npa.symm, upd_ne nab, upd_ne npa.symm, upd_same]
    · rw [upd_ne npb.symm, upd_ne nbc, upd_ne npb.symm, upd_same]
    · rw [upd_ne npc.symm, upd_same]
theorem mak_Web (T : Tp K mg) : Mak P w K mg base 3 "Web" (CW K) (sp_init K) [] := by
  obtain ⟨fd, F⟩ := f_Web_UinitU T
  obtain ⟨ds, hv, hb⟩ := F.binds1 (ps := ["self", "by"]) 2 1 (by simp) rfl fun T kV doc pm an cdv ct us its h1 h2 => match us, its, h1, h2 with
    | [_, _], [_], _, _ => ⟨_, rfl, rfl⟩
  exact ⟨_, fd, ["self", "by"], ds, mk_Web T, fn_init T F, g_Web T, hb, hv⟩
theorem mak0_Web (T : Tp K mg) : Mak P w K mg base 3 "Web" (CW K) (sp_init K) [.int 100] := by
  obtain ⟨fd, F⟩ := f_Web_UinitU T
  obtain ⟨ds, hv, hb⟩ := F.binds1 (ps := ["self", "by"]) 1 0 (by simp) rfl fun T kV doc pm an cdv ct us its h1 h2 => match us, its, h1, h2 with
    | [_], [_], _, _ => ⟨_, rfl, rfl⟩
  exact ⟨_, fd, ["self", "by"], ds, mk_Web T, fn_init T F, g_Web T, hb, hv⟩
end
end Tw

set_option maxHeartbeats 4000000
namespace Tw
open PySem PySem.Spec PyProof.Rows L2
theorem Same.upd' {H H1 : Hp} {p : Addr} {o : HO} (s : Same H H1) (h : H1 p = none) : Same H (upd H1 p o) := s.trans (same_upd h)
/-- a new list is written again: what was ahead of it stays -/
theorem same_put {H H1 : Hp} {D : Addr} {o : HO} (s : Same H H1) (nD : H D = none) : Same H (upd H1 D o) := fun b x e => by
  rw [upd_ne (ne_of_none e nD)]
  exact s b x e
section
variable {P : Program} {w : World} {K : PySem.W.Frag} {mg : Str → Option Value} {base : Heap}
/-! ### woven -/
def sp_woven (K : PySem.W.Frag) : Sp := fun vs H Q _ => ∃ (m : Md) (a b c : Addr) (ws bs : List V), vs = [.int m.last, .ref a, .ref b, .ref c] ∧ H a = some (.tup (m.own.map V.str)) ∧ H b = some (.tup ws) ∧ Rows H ws (m.wd.map Wd.row) ∧ H c = some (.tup bs) ∧ Rows H bs (m.bd.map Bd.row) ∧
  (m.own.length ≤ 10 ∧ m.wd.length ≤ 4 ∧ m.bd.length ≤ 40) ∧ (1 ≤ m.last ∧ m.last ≤ 1000) ∧ ∀ (p : Addr) (H' : Hp), Same H H' → H p = none → WebAt (CW K) H' p m → Q (.ref p) H'
theorem cal_woven (T : Tp K mg) : Cal P w K mg base 5 "woven" (sp_woven K) := by
  obtain ⟨fd, F⟩ := f_woven T
  refine cal_of F (g_woven T) (b_woven F) sc_woven (fun vs H Q E h => ?_) (fun cdv A outer s H vs Q E hr h => ?_)
  · obtain ⟨m, a, b, c, ws, bs, rfl, _⟩ := h
    rfl
  · obtain ⟨m, a, b, c, ws, bs, rfl, ha, hb, rb, hc, rc, hl, hla, q⟩ := h
    refine ⟨_, (pss_cons (ps_set (i := 4) sc_woven.nd rfl (.inl rfl) (C8.pe_mk (mak_Web T) hr (by decide) rfl (pa_cons (pv 0) pa_nil)))
      (pss_cons (ps_fld (pv 4) (pe_callTy call_tuple_of (by rfl) (z_tuple T) bb_tuple (pa_cons (pv 1) pa_nil)) rfl)
      (pss_cons (ps_fld (pv 4) (pe_callTy call_tuple_of (by rfl) (z_tuple T) bb_tuple (pa_cons (pv 2) pa_nil)) rfl)
      (pss_cons (ps_fld (pv 4) (pe_callTy call_tuple_of (by rfl) (z_tuple T) bb_tuple (pa_cons (pv 3) pa_nil)) rfl)
      (pss_one (ps_ret (pv 4))))))), ?_⟩
    refine ⟨_, rfl, fun x dx nx ndx ne => ⟨x, dx, m.last, rfl, upd_same, hla.1, hla.2, fun a0 b0 c0 H1 kp hp ha0 hb0 hc0 => ⟨rfl, ?_⟩⟩⟩
    have s1 : Same H H1 := Same.made nx ndx kp
    have nax : a ≠ x := ne_of_none ha nx
    have nbx : b ≠ x := ne_of_none hb nx
    have ncx : c ≠ x := ne_of_none hc nx
    refine ⟨_, rfl, a, _, rfl, .inr ⟨.inl (.inl (s1 _ _ ha)), _, rfl, x, CW K, dx, _, rfl, hp, cl_Web T, na_moment_rows T, (by show 4 < 1000; decide), ?_⟩⟩
    refine ⟨_, rfl, b, _, rfl, .inr ⟨.inl (.inl (by rw [upd_ne nbx]; exact s1 _ _ hb)), _, rfl, x, CW K, dx, _, rfl, up_eq (by rw [wf_pm]), cl_Web T, na_span_rows T, (by show 4 < 1000; decide), ?_⟩⟩
    refine ⟨_, rfl, c, _, rfl, .inr ⟨.inl (.inl (by rw [upd_ne ncx, upd_ne ncx]; exact s1 _ _ hc)), _, rfl, x, CW K, dx, _, rfl, up_eq (by rw [wf_ps]), cl_Web T, na_tie_rows T, (by show 4 < 1000; decide), ?_⟩⟩
    have s2 : Same H (upd (upd (upd H1 x (.ins (CW K) dx (putF "moment_rows" (.ref a) (wf m.last a0 b0 c0)))) x (.ins (CW K) dx (putF "span_rows" (.ref b) (wf m.last a b0 c0)))) x (.ins (CW K) dx (putF "tie_rows" (.ref c) (wf m.last a b c0)))) := fun y o e => by
      have ny : y ≠ x := ne_of_none e nx
      rw [upd_ne ny, upd_ne ny, upd_ne ny]
      exact s1 _ _ e
    refine ⟨_, rfl, q x _ s2 nx ⟨⟨dx, a, b, c, ws, bs, up_eq (by rw [wf_pt]), s2 _ _ ha, s2 _ _ hb, rb.keep (Kt.of s2), s2 _ _ hc, rc.keep (Kt.of s2)⟩, hl, hla⟩⟩
/-! ### moments, spans, ties -/
def sp_moments (K : PySem.W.Frag) : Sp := fun vs H Q _ => ∃ (p : Addr) (m : Md), vs = [.ref p] ∧ WebAt (CW K) H p m ∧ ∀ q, H q = none → Q (.ref q) (upd H q (.lst (m.own.map V.str)))
theorem met_Web_moments (T : Tp K mg) : Met P w K mg base 2 (CW K) "moments" (sp_moments K) := by
  obtain ⟨fd, F⟩ := f_Web_moments T
  refine met_of F (cl_Web T) (me_Web_moments T) (b_Web_moments F) sc_Web_moments (fun vs H Q E h => ?_) (fun cdv A outer s H vs Q E hr h => ?_)
  · obtain ⟨p, m, rfl, _⟩ := h
    rfl
  · obtain ⟨p, m, rfl, W, q⟩ := h
    obtain ⟨dx, a, b, c, ws, bs, h1, h2, h3, h4, h5, h6⟩ := W.ex
    refine ⟨_, (pss_one (ps_ret (pe_callTy call_list_of (by rfl) (z_list T) bb_list (pa_cons (pe_fld (pv 0) rfl) pa_nil)))), ?_⟩
    exact ⟨_, rfl, p, CW K, dx, _, _, rfl, h1, cl_Web T, na_moment_rows T, wf_m, a, _, rfl, .inr (.inl (.inl h2)), q⟩
def sp_spans (K : PySem.W.Frag) : Sp := fun vs H Q _ => ∃ (p : Addr) (m : Md), vs = [.ref p] ∧ WebAt (CW K) H p m ∧ ∀ ws q, Rows H ws (m.wd.map Wd.row) → H q = none → Q (.ref q) (upd H q (.lst ws))
theorem met_Web_spans (T : Tp K mg) : Met P w K mg base 2 (CW K) "spans" (sp_spans K) := by
  obtain ⟨fd, F⟩ := f_Web_spans T
  refine met_of F (cl_Web T) (me_Web_spans T) (b_Web_spans F) sc_Web_spans (fun vs H Q E h => ?_) (fun cdv A outer s H vs Q E hr h => ?_)
  · obtain ⟨p, m, rfl, _⟩ := h
    rfl
  · obtain ⟨p, m, rfl, W, q⟩ := h
    obtain ⟨dx, a, b, c, ws, bs, h1, h2, h3, h4, h5, h6⟩ := W.ex
    refine ⟨_, (pss_one (ps_ret (pe_callTy call_list_of (by rfl) (z_list T) bb_list (pa_cons (pe_fld (pv 0) rfl) pa_nil)))), ?_⟩
    exact ⟨_, rfl, p, CW K, dx, _, _, rfl, h1, cl_Web T, na_span_rows T, wf_s, b, _, rfl, .inr (.inl (.inl h3)), fun l => q ws l h4⟩
def sp_ties (K : PySem.W.Frag) : Sp := fun vs H Q _ => ∃ (p : Addr) (m : Md), vs = [.ref p] ∧ WebAt (CW K) H p m ∧ ∀ bs q, Rows H bs (m.bd.map Bd.row) → H q = none → Q (.ref q) (upd H q (.lst bs))
theorem met_Web_ties (T : Tp K mg) : Met P w K mg base 2 (CW K) "ties" (sp_ties K) := by
  obtain ⟨fd, F⟩ := f_Web_ties T
  refine met_of F (cl_Web T) (me_Web_ties T) (b_Web_ties F) sc_Web_ties (fun vs H Q E h => ?_) (fun cdv A outer s H vs Q E hr h => ?_)
  · obtain ⟨p, m, rfl, _⟩ := h
    rfl
  · obtain ⟨p, m, rfl, W, q⟩ := h
    obtain ⟨dx, a, b, c, ws, bs, h1, h2, h3, h4, h5, h6⟩ := W.ex
    refine ⟨_, (pss_one (ps_ret (pe_callTy call_list_of (by rfl) (z_list T) bb_list (pa_cons (pe_fld (pv 0) rfl) pa_nil)))), ?_⟩
    exact ⟨_, rfl, p, CW K, dx, _, _, rfl, h1, cl_Web T, na_tie_rows T, wf_t, c, _, rfl, .inr (.inl (.inl h5)), fun l => q bs l h6⟩
/-! ### points -/
def sp_points (K : PySem.W.Frag) : Sp := fun vs H Q _ => ∃ (p : Addr) (m : Md), vs = [.ref p] ∧ WebAt (CW K) H p m ∧ ∀ q H', Same H H' → H q = none → H' q = some (.lst (m.pts.map V.str)) → Q (.ref q) H'
theorem met_Web_points (T : Tp K mg) : Met P w K mg base 3 (CW K) "points" (sp_points K) := by
  obtain ⟨fd, F⟩ := f_Web_points T
  refine met_of F (cl_Web T) (me_Web_points T) (b_Web_points F) sc_Web_points (fun vs H Q E h => ?_) (fun cdv A outer s H vs Q E hr h => ?_)
  · obtain ⟨p, m, rfl, _⟩ := h
    rfl
  · obtain ⟨p, m, rfl, W, q⟩ := h
    obtain ⟨dx, a, b, c, ws, bs, h1, h2, h3, h4, h5, h6⟩ := W.ex
    have hl := W.len
    have hw : ws.length = m.wd.length := by
      rw [h4.len, List.length_map]
    refine ⟨_, (pss_cons (ps_setLc (i := 1) (own := [("span", 2)]) (g := gName 2) (tt := tYes) rfl sc_Web_points.nd rfl rfl (sw_true rfl rfl rfl (by decide +kernel)) (pi_tup (pe_fld (pv 0) rfl)) (blkOk_by (N := N_Web_points) (sc := defScope s_Web_points) (by decide +kernel)) (fun _ _ _ _ _ => (pg_name (i := 2) sc_Web_points.nd rfl (.inl rfl))) (fun _ _ _ _ _ => pts_nil) (fun _ _ _ _ _ => (pe_ix (ix_tupK (K := K) rfl) (pv 2) pe_int (fun _ _ => rfl))))
      (pss_one (ps_ret (pe_op op_cat (pe_op op_cat (pe_lst (pa_cons (C8.pe_gc (by rfl) (c_START T)) pa_nil)) (C8.pe_mt0 (met_Web_moments T) hr (by decide) (pv 0))) (pv 1))))), ?_⟩
    refine ⟨_, rfl, p, CW K, dx, _, _, rfl, h1, cl_Web T, na_span_rows T, wf_s, b, rfl, ⟨_, .inl (.inl h3)⟩, fun D nD => ?_⟩
    refine lc_tup (K := K) (a := b) (xs := ws) (fun i H1 => Same H H1 ∧ H1 D = some (.lst (((m.wd.map (·.en)).take i).map V.str))) ⟨same_upd nD, upd_same⟩ (fun i H1 _ ⟨s1, _⟩ => .inl (.inl (s1 _ _ h3))) ?_ ?_
    · rintro i x H1 hx ⟨s1, d1⟩
      obtain ⟨t, r, rfl, hr', ht⟩ := h4.at hx
      rw [List.getElem?_map] at hr'
      cases e : m.wd[i]? with
      | none =>
        rw [e] at hr'
        cases hr'
      | some y =>
        rw [e] at hr'
        cases hr'
        have hi : i < m.wd.length := (List.getElem?_eq_some_iff.mp e).1
        refine ⟨rfl, yes_i (iteT ⟨_, rfl, t, _, 0, _, rfl, rfl, .inl (.inl (s1 _ _ ht)), atI_nat (j := 0) rfl, _, d1, ?_, ?_, ?_⟩)⟩
        · rw [List.length_map, List.length_take]
          exact small1000 (by omega)
        · exact same_put s1 nD
        · rw [upd_same, List.take_add_one, List.getElem?_map, e, List.map_append]
          rfl
    · rintro H1 ⟨s1, d1⟩
      have en : (m.wd.map (·.en)).take ws.length = m.wd.map (·.en) := List.take_of_length_le (by rw [List.length_map]; omega)
      rw [en] at d1
      -- [START] + self.moments() + ends
      refine ⟨by show 1 ≤ sizeLine; decide, fun l nl => ?_⟩
      have s2 : Same H1 (upd H1 l (.lst [.str "start"])) := same_upd nl
      have W2 := (W.same s1).same s2
      obtain ⟨dx2, _, _, _, _, _, g1, _⟩ := W2.ex
      refine ⟨_, rfl, p, _, _, rfl, g1, wf_no (by decide +kernel), p, m, rfl, W2, fun k nk => ?_⟩
      have nlk : l ≠ k := fun z => by
        rw [← z, upd_same] at nk
        cases nk
      have s3 := same_upd (o := .lst (m.own.map V.str)) nk
      refine ⟨l, k, _, _, rfl, rfl, (by rw [upd_ne nlk]; exact upd_same), upd_same, ?_, fun r nr => ?_⟩
      · rw [List.length_map]
        exact Nat.le_of_lt (small1000 (by show 1 + _ ≤ 1000; omega))
      · have s4 := same_upd (o := .lst ([.str "start"] ++ m.own.map V.str)) nr
        have nDr : D ≠ r := ne_of_none (s3 _ _ (s2 _ _ d1)) nr
        refine ⟨_, rfl, r, D, _, _, rfl, rfl, upd_same, (s4 _ _ (s3 _ _ (s2 _ _ d1))), ?_, fun u nu => ?_⟩
        · rw [List.length_append, List.length_map, List.length_map, List.length_map]
          exact Nat.le_of_lt (small1000 (by show 1 + _ + _ ≤ 1000; omega))
        · have s5 := same_upd (o := .lst ([.str "start"] ++ m.own.map V.str ++ (m.wd.map (·.en)).map V.str)) nu
          have sa := ((s1.trans s2).trans s3).trans s4
          refine q u _ (sa.trans s5) (sa.free nu) ?_
          rw [upd_same]
          unfold Md.pts
          rw [List.map_cons, List.map_append]
          rfl
end
end Tw

set_option maxHeartbeats 4000000
namespace Tw
open PySem PySem.Spec PyProof.Rows L2
/-- the two bounds of a tie, good -/
structure BOk (bo to : Option Int) : Prop where
  one : ¬ (bo = none ∧ to = none)
  lo : ∀ x, bo = some x → -1000 ≤ x ∧ x ≤ 1000
  hi : ∀ x, to = some x → -1000 ≤ x ∧ x ≤ 1000
  le : ∀ x y, bo = some x → to = some y → x ≤ y
def tls (bo to : Option Int) : List Int := bo.toList ++ to.toList
theorem BOk.sh {bo to : Option Int} (h : BOk bo to) : (∀ x ∈ tls bo to, -1000 ≤ x ∧ x ≤ 1000) ∧ ((∃ u, tls bo to = [u]) ∨ ∃ u v, tls bo to = [u, v] ∧ u ≤ v) := by
  cases bo with
  | none =>
    cases to with
    | none => exact absurd ⟨rfl, rfl⟩ h.one
    | some y =>
      refine ⟨fun x hx => ?_, .inl ⟨y, rfl⟩⟩
      have e : x = y := by simpa [tls] using hx
      rw [e]
      exact h.hi y rfl
  | some x0 =>
    cases to with
    | none =>
      refine ⟨fun x hx => ?_, .inl ⟨x0, rfl⟩⟩
      have e : x = x0 := by simpa [tls] using hx
      rw [e]
      exact h.lo x0 rfl
    | some y =>
      refine ⟨fun x hx => ?_, .inr ⟨x0, y, rfl, h.le x0 y rfl rfl⟩⟩
      have e : x = x0 ∨ x = y := by simpa [tls] using hx
      rcases e with e | e
      · rw [e]
        exact h.lo x0 rfl
      · rw [e]
        exact h.hi y rfl
theorem oV_non {o : Option Int} : decide (oV o = V.non) = o.isNone := by
  cases o <;> simp [oV]
section
variable {P : Program} {w : World} {K : PySem.W.Frag} {mg : Str → Option Value} {base : Heap}
/-! ### are_bounds -/
def sp_are_bounds : Sp := fun vs H Q _ => ∃ bo to : Option Int, vs = [oV bo, oV to] ∧ BOk bo to ∧ ∀ H', Same H H' → Q (.bl true) H'
theorem cal_are_bounds (T : Tp K mg) : Cal P w K mg base 3 "are_bounds" sp_are_bounds := by
  obtain ⟨fd, F⟩ := f_are_bounds T
  refine cal_of F (g_are_bounds T) (b_are_bounds F) sc_are_bounds (fun vs H Q E h => ?_) (fun cdv A outer s H vs Q E hr h => ?_)
  · obtain ⟨bo, to, rfl, _⟩ := h
    rfl
  · obtain ⟨bo, to, rfl, B, q⟩ := h
    obtain ⟨hin, hsh⟩ := B.sh
    refine ⟨_, (pss_cons (ps_setLc (i := 2) (own := [("bound", 3)]) (g := gName 3) rfl sc_are_bounds.nd rfl rfl (sw_true rfl rfl rfl (by decide +kernel)) (pi_tup (pe_tup (pa_cons (pv 0) (pa_cons (pv 1) pa_nil)))) (blkOk_by (N := N_are_bounds) (sc := defScope s_are_bounds) (by decide +kernel)) (fun _ _ _ _ _ => (pg_name (i := 3) sc_are_bounds.nd rfl (.inl rfl))) (fun _ _ _ _ _ => (pts_one (pt_cmpR op_notN (pv 3) pe_non (nomark _)))) (fun _ _ _ _ _ => (pv 3)))
      (pss_cons (ps_if (pt_not (pt_val (pe_callB (cr_all rfl) (by rfl) (z_all T) bb_all (pa_cons (pe_lc (own := [("bound", 3)]) (g := gName 3) (tt := tYes) rfl sc_are_bounds.nd (pi_list (pv 2)) (blkOk_by (N := N_are_bounds) (sc := defScope s_are_bounds) (by decide +kernel)) (fun _ _ _ _ _ => (pg_name (i := 3) sc_are_bounds.nd rfl (.inl rfl))) (fun _ _ _ _ _ => pts_nil) (fun _ _ _ _ _ => (C8.pe_c (cal_is_whole T) hr (by decide) rfl (pa_cons (pv 3) (pa_cons (pe_un un_neg (C8.pe_gc (by rfl) (c_MOST_BOUND T))) (pa_cons (C8.pe_gc (by rfl) (c_MOST_BOUND T)) pa_nil)))))) pa_nil)))) (pss_one (ps_ret pe_bl)) pss_nil)
      (pss_one (ps_ret (pe_and (pe_cmpR op_gt (pe_callB call_len_seq (by rfl) (z_len T) bb_len (pa_cons (pv 2) pa_nil)) pe_int (nomark _)) (pe_one (pe_cmpR op_le (pe_ix ix_list (pv 2) pe_int (fun _ _ => rfl)) (pe_ix ix_list (pv 2) (pe_un un_neg pe_int) (fun _ _ => rfl)) (nomark _)))))))), ?_⟩
    refine ⟨_, rfl, _, rfl, (by show 2 ≤ sizeLine; decide), fun t nt => ?_⟩
    have s1 : Same H (upd H t (.tup [oV bo, oV to])) := same_upd nt
    refine ⟨t, rfl, ⟨_, .inl (.inl upd_same)⟩, fun D nD => ?_⟩
    have nDH : H D = none := s1.free nD
    refine lc_tup (K := K) (a := t) (xs := [oV bo, oV to]) (fun i H1 => Same (upd H t (.tup [oV bo, oV to])) H1 ∧ H1 D = some (.lst ((((([bo, to] : List (Option Int)).take i).filterMap id)).map V.int)))
      ⟨same_upd nD, upd_same⟩ (fun i H1 _ ⟨s2, _⟩ => .inl (.inl (s2 _ _ upd_same))) ?_ ?_
    · rintro i x H1 hx ⟨s2, d1⟩
      obtain ⟨o, eo, ex⟩ : ∃ o : Option Int, ([bo, to] : List (Option Int))[i]? = some o ∧ x = oV o := by
        match i, hx with
        | 0, hx => exact ⟨bo, rfl, (Option.some.inj hx).symm⟩
        | 1, hx => exact ⟨to, rfl, (Option.some.inj hx).symm⟩
      subst ex
      have hi : i < 2 := (List.getElem?_eq_some_iff.mp eo).1
      have e2 : (([bo, to] : List (Option Int)).take (i + 1)).filterMap id = (([bo, to] : List (Option Int)).take i).filterMap id ++ o.toList := by
        rw [List.take_add_one, eo, List.filterMap_append]
        cases o <;> rfl
      refine ⟨rfl, _, rfl, rfl, _, rfl, ?_⟩
      rw [oV_non]
      cases o with
      | none =>
        refine iteF ⟨s2, ?_⟩
        rw [e2, d1]
        show _ = some (HO.lst (List.map V.int (_ ++ [])))
        rw [List.append_nil]
      | some z =>
        refine iteT ⟨_, rfl, _, d1, ?_, ?_, ?_⟩
        · rw [List.length_map]
          refine Nat.lt_of_le_of_lt (List.length_filterMap_le _ _) ?_
          rw [List.length_take]
          exact small1000 (by show min i 2 ≤ 1000; omega)
        · exact same_put s2 nD
        · rw [upd_same, e2, List.map_append]
          rfl
    · rintro H1 ⟨s2, d1⟩
      have d2 : H1 D = some (.lst ((tls bo to).map V.int)) := by
        rw [d1]
        cases bo <;> cases to <;> rfl
      have s3 : Same H H1 := s1.trans s2
      have hlen : (tls bo to).length ≤ 2 := by
        rcases hsh with ⟨u, e⟩ | ⟨u, v, e, _⟩ <;> rw [e] <;> simp
      -- all([is_whole(..) for bound in told])
      refine ⟨_, rfl, D, rfl, ⟨_, .inl (.inl d2)⟩, fun L nL => ?_⟩
      have nLH : H L = none := s3.free nL
      have nDL : D ≠ L := ne_of_none d2 nL
      refine lc_list (K := K) (a := D) (xs := (tls bo to).map V.int) (fun i H2 => Same H H2 ∧ H2 D = some (.lst ((tls bo to).map V.int)) ∧ H2 L = some (.lst ((List.replicate i true).map V.bl)))
        ⟨s3.trans (same_upd nL), by rw [upd_ne nDL]; exact d2, upd_same⟩ (fun i H2 _ ⟨_, d, _⟩ => .inl (.inl d)) ?_ ?_
      · rintro i x H2 hx ⟨s4, d4, l4⟩
        rw [List.getElem?_map] at hx
        cases e : (tls bo to)[i]? with
        | none =>
          rw [e] at hx
          cases hx
        | some z =>
          rw [e] at hx
          cases hx
          have hi : i < (tls bo to).length := (List.getElem?_eq_some_iff.mp e).1
          have hz := hin z (List.mem_of_getElem? e)
          refine ⟨rfl, yes_i (iteT ⟨_, rfl, 1000, rfl, z, -1000, 1000, rfl, _, l4, ?_, ?_, ?_, ?_⟩)⟩
          · rw [List.length_map, List.length_replicate]
            exact small1000 (by omega)
          · exact same_put s4 nLH
          · rw [upd_ne nDL]
            exact d4
          · rw [upd_same, decide_eq_true hz, List.replicate_succ', List.map_append]
            rfl
      · rintro H2 ⟨s4, d4, l4⟩
        refine ⟨L, _, rfl, .inl (.inl l4), _, rfl, ?_⟩
        rw [show (List.replicate ((tls bo to).map V.int).length true).all id = true by simp]
        refine iteF ?_
        -- len(told) > 0 and told[0] <= told[-1]
        refine ⟨_, rfl, D, _, rfl, .inl (.inl (.inl d4)), _, 0, rfl, rfl, _, rfl, ?_⟩
        have fin : ∀ (u v : Int) (pre : List Int), (tls bo to)[0]? = some u → tls bo to = pre ++ [v] → u ≤ v → (if decide ((0 : Int) < ((tls bo to).map V.int).length) = true then
            tOp (rI0 fun i j => .bl (decide (i ≤ j))) (tOp (rIxL K) (tVar 2) (tC (.int 0))) (tOp (rIxL K) (tVar 2) (tUn (rU fun i => .int (-i)) (tC (.int 1)))) [some (oV bo), some (oV to), some (.ref D), none] H2 Q else Q (.bl false) H2) := by
          intro u v pre hu hv huv
          have h0 : 0 < (tls bo to).length := by
            rw [hv, List.length_append]
            exact Nat.succ_pos _
          rw [decide_eq_true (by rw [List.length_map]; omega)]
          have hz : (tls bo to).map V.int = pre.map V.int ++ [.int v] := by
            rw [hv, List.map_append]
            rfl
          refine iteT ⟨_, rfl, D, _, 0, .int u, rfl, rfl, .inl (.inl d4), atI_nat (j := 0) (by rw [List.getElem?_map, hu]; rfl), _, rfl, _, rfl, D, _, _, .int v, rfl, rfl, .inl (.inl d4), ?_, u, v, rfl, rfl, ?_⟩
          · rw [hz]
            exact atI_last _ _
          · show Q (.bl (decide (u ≤ v))) H2
            rw [decide_eq_true huv]
            exact q H2 s4
        rcases hsh with ⟨u, e⟩ | ⟨u, v, e, huv⟩
        · exact fin u u [] (by rw [e]; rfl) (by rw [e]; rfl) (Int.le_refl _)
        · exact fin u v [u] (by rw [e]; rfl) (by rw [e]; rfl) huv
/-! ### is_begin, need_free_name, need_point -/
def sp_is_begin (K : PySem.W.Frag) : Sp := fun vs H Q _ => ∃ (p : Addr) (m : Md) (z : Str), vs = [.ref p, .str z] ∧ WebAt (CW K) H p m ∧ (z = "start" ∨ z ∈ m.own) ∧ ∀ H', Same H H' → Q (.bl true) H'
theorem cal_is_begin (T : Tp K mg) : Cal P w K mg base 3 "is_begin" (sp_is_begin K) := by
  obtain ⟨fd, F⟩ := f_is_begin T
  refine cal_of F (g_is_begin T) (b_is_begin F) sc_is_begin (fun vs H Q E h => ?_) (fun cdv A outer s H vs Q E hr h => ?_)
  · obtain ⟨p, m, z, rfl, _⟩ := h
    rfl
  · obtain ⟨p, m, z, rfl, W, hz, q⟩ := h
    obtain ⟨dx, a, b, c, ws, bs, h1, _⟩ := W.ex
    refine ⟨_, (pss_one (ps_ret (C8.pe_c (cal_is_one_of T) hr (by decide) rfl (pa_cons (pv 1) (pa_cons (pe_op op_cat (pe_lst (pa_cons (C8.pe_gc (by rfl) (c_START T)) pa_nil)) (C8.pe_mt0 (met_Web_moments T) hr (by decide) (pv 0))) pa_nil))))), ?_⟩
    refine ⟨_, rfl, by show 1 ≤ sizeLine; decide, fun l nl => ?_⟩
    have s1 : Same H (upd H l (.lst [.str "start"])) := same_upd nl
    refine ⟨_, rfl, p, dx, _, rfl, s1 _ _ h1, wf_no (by decide +kernel), p, m, rfl, W.same s1, fun k nk => ?_⟩
    have nlk : l ≠ k := fun e => by
      rw [← e, upd_same] at nk
      cases nk
    have s2 := same_upd (o := .lst (m.own.map V.str)) nk
    refine ⟨l, k, _, _, rfl, rfl, (by rw [upd_ne nlk]; exact upd_same), upd_same, ?_, fun r nr => ?_⟩
    · rw [List.length_map]
      have hl := W.len
      exact Nat.le_of_lt (small1000 (by show 1 + _ ≤ 1000; omega))
    · have s3 := same_upd (o := .lst ([.str "start"] ++ m.own.map V.str)) nr
      refine ⟨z, r, "start" :: m.own, rfl, upd_same, ?_⟩
      rw [decide_eq_true (List.mem_cons.mpr hz)]
      exact q _ ((s1.trans s2).trans s3)
def sp_need_free_name (K : PySem.W.Frag) : Sp := fun vs H Q _ => ∃ (p : Addr) (m : Md) (z : Str), vs = [.ref p, .str z] ∧ WebAt (CW K) H p m ∧ Nm z ∧ ¬ z ∈ m.pts ∧ ∀ H', Same H H' → Q .non H'
theorem cal_need_free_name (T : Tp K mg) : Cal P w K mg base 4 "need_free_name" (sp_need_free_name K) := by
  obtain ⟨fd, F⟩ := f_need_free_name T
  refine cal_of F (g_need_free_name T) (b_need_free_name F) sc_need_free_name (fun vs H Q E h => ?_) (fun cdv A outer s H vs Q E hr h => ?_)
  · obtain ⟨p, m, z, rfl, _⟩ := h
    rfl
  · obtain ⟨p, m, z, rfl, W, hn, hz, q⟩ := h
    refine ⟨_, (pss_cons (ps_if (pt_not (pt_val (C8.pe_c (cal_is_name T) hr (by decide) rfl (pa_cons (pv 1) pa_nil)))) (pss_one ps_never) pss_nil)
      (pss_one (ps_if (pt_cmpR op_in_seq (pv 1) (C8.pe_mt0 (met_Web_points T) hr (by decide) (pv 0)) (by rfl)) (pss_one ps_never) pss_nil))), ?_⟩
    refine ⟨_, rfl, z, rfl, hn, fun H1 s1 => ⟨_, rfl, iteF ?_⟩⟩
    have W1 := W.same s1
    obtain ⟨dx, a, b, c, ws, bs, h1, _⟩ := W1.ex
    refine ⟨_, rfl, _, rfl, p, dx, _, rfl, h1, wf_no (by decide +kernel), p, m, rfl, W1, fun k H2 s2 nk ek => ?_⟩
    refine ⟨k, _, rfl, .inl (.inl (.inl ek)), rfl, flat_strs _, _, rfl, ?_⟩
    show if inV (.str z) (m.pts.map V.str) = true then _ else _
    rw [in_strs, decide_eq_false hz]
    exact iteF (q H2 (s1.trans s2))
def sp_need_point (K : PySem.W.Frag) : Sp := fun vs H Q _ => ∃ (p : Addr) (m : Md) (z : Str), vs = [.ref p, .str z] ∧ WebAt (CW K) H p m ∧ z ∈ m.pts ∧ ∀ H', Same H H' → Q .non H'
theorem cal_need_point (T : Tp K mg) : Cal P w K mg base 4 "need_point" (sp_need_point K) := by
  obtain ⟨fd, F⟩ := f_need_point T
  refine cal_of F (g_need_point T) (b_need_point F) sc_need_point (fun vs H Q E h => ?_) (fun cdv A outer s H vs Q E hr h => ?_)
  · obtain ⟨p, m, z, rfl, _⟩ := h
    rfl
  · obtain ⟨p, m, z, rfl, W, hz, q⟩ := h
    obtain ⟨dx, a, b, c, ws, bs, h1, _⟩ := W.ex
    refine ⟨_, (pss_one (ps_if (pt_not (pt_val (C8.pe_c (cal_is_one_of T) hr (by decide) rfl (pa_cons (pv 1) (pa_cons (C8.pe_mt0 (met_Web_points T) hr (by decide) (pv 0)) pa_nil))))) (pss_one ps_never) pss_nil)), ?_⟩
    refine ⟨_, rfl, _, rfl, p, dx, _, rfl, h1, wf_no (by decide +kernel), p, m, rfl, W, fun k H2 s2 nk ek => ?_⟩
    refine ⟨z, k, _, rfl, ek, _, rfl, ?_⟩
    rw [decide_eq_true hz]
    exact iteF (q H2 s2)
/-! ### __len__ -/
def sp_len (K : PySem.W.Frag) : Sp := fun vs H Q _ => ∃ (p : Addr) (m : Md), vs = [.ref p] ∧ WebAt (CW K) H p m ∧ ∀ H', Same H H' → Q (.int (m.pts.length : Nat)) H'
theorem met_Web_UlenU (T : Tp K mg) : Met P w K mg base 4 (CW K) "__len__" (sp_len K) := by
  obtain ⟨fd, F⟩ := f_Web_UlenU T
  refine met_of F (cl_Web T) (me_Web_UlenU T) (b_Web_UlenU F) sc_Web_UlenU (fun vs H Q E h => ?_) (fun cdv A outer s H vs Q E hr h => ?_)
  · obtain ⟨p, m, rfl, _⟩ := h
    rfl
  · obtain ⟨p, m, rfl, W, q⟩ := h
    obtain ⟨dx, a, b, c, ws, bs, h1, _⟩ := W.ex
    refine ⟨_, (pss_one (ps_ret (pe_callB call_len_seq (by rfl) (z_len T) bb_len (pa_cons (C8.pe_mt0 (met_Web_points T) hr (by decide) (pv 0)) pa_nil)))), ?_⟩
    refine ⟨_, rfl, p, dx, _, rfl, h1, wf_no (by decide +kernel), p, m, rfl, W, fun k H2 s2 nk ek => ⟨k, _, rfl, .inl (.inl (.inl ek)), ?_⟩⟩
    rw [List.length_map]
    exact q H2 s2
theorem pts_len {C : Addr} {H : Hp} {p : Addr} {m : Md} (W : WebAt C H p m) : m.pts.length ≤ 15 := by
  have h := W.len
  unfold Md.pts
  rw [List.length_cons, List.length_append, List.length_map]
  omega
/-! ### __repr__ -/
def num (i : Int) : Str := (toString i : String)
theorem num_len : ∀ n : Fin 1001, (num ((n : Nat) : Int)).length ≤ 4 := by decide +kernel
theorem num_le {i : Int} (h0 : 0 ≤ i) (h1 : i ≤ 1000) : (num i).length ≤ 4 := by
  have h := num_len ⟨i.toNat, by omega⟩
  rw [show (((⟨i.toNat, by omega⟩ : Fin 1001) : Nat) : Int) = i from Int.toNat_of_nonneg h0] at h
  exact h
theorem num_log {i : Int} (h0 : 0 ≤ i) (h1 : i ≤ 1000) : i.natAbs.log2 < 1920 := by
  have h : i.natAbs < 2 ^ 1920 := Nat.lt_of_lt_of_le (show i.natAbs < 1024 by omega) (by decide +kernel)
  by_cases hz : i.natAbs = 0
  · rw [hz]
    decide
  · exact (Nat.log2_lt hz).mpr h
def webText (m : Md) : Str := ((((((Str.empty ++ ("Web(" : Str)) ++ num (m.pts.length : Nat)) ++ (" points, " : Str)) ++ num (m.bd.length : Nat)) ++ (" ties, by " : Str)) ++ num m.last) ++ (")" : Str)
theorem short {z : Str} {n : Nat} (h : z.length ≤ n) (hn : n ≤ 1000) : z.length ≤ sizeLine := Nat.le_of_lt (small1000 (Nat.le_trans h hn))
theorem app_le {a b : Str} {m n : Nat} (ha : a.length ≤ m) (hb : b.length ≤ n) : (a ++ b).length ≤ m + n := by
  rw [Str.length_append]
  omega
def sp_repr (K : PySem.W.Frag) : Sp := fun vs H Q _ => ∃ (p : Addr) (m : Md), vs = [.ref p] ∧ WebAt (CW K) H p m ∧ ∀ H', Same H H' → Q (.str (webText m)) H'
theorem met_Web_UreprU (T : Tp K mg) : Met P w K mg base 6 (CW K) "__repr__" (sp_repr K) := by
  obtain ⟨fd, F⟩ := f_Web_UreprU T
  refine met_of F (cl_Web T) (me_Web_UreprU T) (b_Web_UreprU F) sc_Web_UreprU (fun vs H Q E h => ?_) (fun cdv A outer s H vs Q E hr h => ?_)
  · obtain ⟨p, m, rfl, _⟩ := h
    rfl
  · obtain ⟨p, m, rfl, W, q⟩ := h
    obtain ⟨dx, a, b, c, ws, bs, h1, _⟩ := W.ex
    have hp := pts_len W
    have hl := W.len
    have hla := W.last
    refine ⟨_, (pss_one (ps_ret (pe_joined (.cons pe_str (.cons (pe_fmt (pe_callB (call_lenO (met_Web_UlenU T) hr (by decide)) (by rfl) (z_len T) bb_len (pa_cons (pv 0) pa_nil))) (.cons pe_str (.cons (pe_fmt (pe_callB call_len_seq (by rfl) (z_len T) bb_len (pa_cons (pe_fld (pv 0) rfl) pa_nil))) (.cons pe_str (.cons (pe_fmt (pe_fld (pv 0) rfl)) (.cons pe_str .nil)))))))))), ?_⟩
    have l0 : (Str.empty ++ ("Web(" : Str)).length ≤ 4 := by decide +kernel
    have l1 := app_le l0 (num_le (i := (m.pts.length : Nat)) (by omega) (by omega))
    have l2 := app_le l1 (show (" points, " : Str).length ≤ 9 by decide +kernel)
    have l3 := app_le l2 (num_le (i := (m.bd.length : Nat)) (by omega) (by omega))
    have l4 := app_le l3 (show (" ties, by " : Str).length ≤ 10 by decide +kernel)
    have l5 := app_le l4 (num_le (i := m.last) (by omega) (by omega))
    have l6 := app_le l5 (show (")" : Str).length ≤ 1 by decide +kernel)
    refine ⟨("Web(" : Str), rfl, short l0 (by decide), _, rfl, p, dx, _, rfl, h1, p, m, rfl, W, fun H2 s2 => ⟨_, rfl, by omega, by omega, .inr ⟨_, rfl, num_log (by omega) (by omega), _, rfl, short l1 (by decide), ?_⟩⟩⟩
    have W2 := W.same s2
    obtain ⟨dx2, a2, b2, c2, ws2, bs2, g1, g2, g3, g4, g5, g6⟩ := W2.ex
    have hb2 : bs2.length = m.bd.length := by rw [g6.len, List.length_map]
    refine ⟨_, rfl, short l2 (by decide), _, rfl, p, CW K, dx2, _, _, rfl, g1, cl_Web T, na_tie_rows T, wf_t, c2, _, rfl, .inr (.inl (.inl g5)), .inr ⟨_, rfl, num_log (by omega) (by omega), _, rfl, ?_, ?_⟩⟩
    · rw [hb2]
      exact short l3 (by decide)
    · rw [hb2]
      refine ⟨_, rfl, short l4 (by decide), _, rfl, p, CW K, dx2, _, _, rfl, g1, cl_Web T, na_by T, wf_by, .inr ⟨_, rfl, num_log (by omega) (by omega), _, rfl, short l5 (by decide), _, rfl, short l6 (by decide), ?_⟩⟩
      exact q H2 s2
end
end Tw

set_option maxHeartbeats 4000000
namespace Tw
open PySem PySem.Spec PyProof.Rows L2
theorem wh_int {lo hi : Int} {v : V} (h : whB lo hi v = true) : ∃ i : Int, v = .int i ∧ lo ≤ i ∧ i ≤ hi := by
  cases v with
  | int j =>
    have hj := of_decide_eq_true (show decide (lo ≤ j ∧ j ≤ hi) = true from h)
    exact ⟨j, rfl, hj.1, hj.2⟩
  | non => cases h
  | bl b => cases h
  | str z => cases h
  | byt b => cases h
  | flt b => cases h
  | ref b => cases h
  | ty b => cases h
/-- the two lengths are good -/
def lenB (a b : V) : Bool := whB 1 1000 a && match a with
  | .int i => whB i 1000 b
  | _ => false
def lateB (h : V) : Bool := decide (h = .non) || whB 0 1000 h
theorem len_ok {a b : V} (h : lenB a b = true) : ∃ i j : Int, a = .int i ∧ b = .int j ∧ 1 ≤ i ∧ i ≤ j ∧ j ≤ 1000 := by
  obtain ⟨h1, h2⟩ := Bool.and_eq_true_iff.mp h
  obtain ⟨i, rfl, i1, _⟩ := wh_int h1
  obtain ⟨j, rfl, j1, j2⟩ := wh_int (show whB i 1000 b = true from h2)
  exact ⟨i, j, rfl, rfl, i1, j1, j2⟩
theorem late_ok {h : V} (e : lateB h = true) : ∃ o : Option Int, h = oV o ∧ ∀ i, o = some i → 0 ≤ i ∧ i ≤ 1000 := by
  by_cases hn : h = .non
  · exact ⟨none, hn, fun i z => by cases z⟩
  · unfold lateB at e
    rw [decide_eq_false hn, Bool.false_or] at e
    obtain ⟨i, rfl, h1, h2⟩ := wh_int e
    exact ⟨some i, rfl, fun j z => by cases z; exact ⟨h1, h2⟩⟩
section
variable {P : Program} {w : World} {K : PySem.W.Frag} {mg : Str → Option Value} {base : Heap}
/-! ### are_lengths, is_lateness -/
def sp_are_lengths : Sp := fun vs H Q _ => ∃ a b : V, vs = [a, b] ∧ (plK a).isSome = true ∧ (plK b).isSome = true ∧ Q (.bl (lenB a b)) H
theorem cal_are_lengths (T : Tp K mg) : Cal P w K mg base 3 "are_lengths" sp_are_lengths := by
  obtain ⟨fd, F⟩ := f_are_lengths T
  refine cal_of F (g_are_lengths T) (b_are_lengths F) sc_are_lengths (fun vs H Q E h => ?_) (fun cdv A outer s H vs Q E hr h => ?_)
  · obtain ⟨a, b, rfl, _⟩ := h
    rfl
  · obtain ⟨a, b, rfl, pa, pb, q⟩ := h
    refine ⟨_, (pss_one (ps_ret (pe_and (C8.pe_c (cal_iswh T) hr (by decide) rfl (pa_cons (pv 0) (pa_cons pe_int (pa_cons (C8.pe_gc (by rfl) (c_MOST_LENGTH T)) pa_nil)))) (pe_one (C8.pe_c (cal_iswh T) hr (by decide) rfl (pa_cons (pv 1) (pa_cons (pv 0) (pa_cons (C8.pe_gc (by rfl) (c_MOST_LENGTH T)) pa_nil)))))))), ?_⟩
    refine ⟨_, rfl, a, 1, 1000, rfl, pa, _, rfl, ?_⟩
    cases ha : whB 1 1000 a with
    | false =>
      refine iteF ?_
      have e : lenB a b = false := by
        unfold lenB
        rw [ha, Bool.false_and]
      rw [e] at q
      exact q
    | true =>
      obtain ⟨i, rfl, i1, i2⟩ := wh_int ha
      refine iteT ⟨_, rfl, _, rfl, b, i, 1000, rfl, pb, ?_⟩
      have e : lenB (.int i) b = whB i 1000 b := by
        show (whB 1 1000 (.int i) && whB i 1000 b) = _
        rw [ha, Bool.true_and]
      rw [e] at q
      exact q
def sp_is_lateness : Sp := fun vs H Q _ => ∃ h : V, vs = [h] ∧ (plK h).isSome = true ∧ Q (.bl (lateB h)) H
theorem cal_is_lateness (T : Tp K mg) : Cal P w K mg base 3 "is_lateness" sp_is_lateness := by
  obtain ⟨fd, F⟩ := f_is_lateness T
  refine cal_of F (g_is_lateness T) (b_is_lateness F) sc_is_lateness (fun vs H Q E h => ?_) (fun cdv A outer s H vs Q E hr h => ?_)
  · obtain ⟨h, rfl, _⟩ := h
    rfl
  · obtain ⟨h, rfl, ph, q⟩ := h
    refine ⟨_, (pss_one (ps_ret (pe_or (pe_cmpR op_isN (pv 0) pe_non (nomark _)) (pe_one (C8.pe_c (cal_iswh T) hr (by decide) rfl (pa_cons (pv 0) (pa_cons pe_int (pa_cons (C8.pe_gc (by rfl) (c_MOST_LATE T)) pa_nil)))))))), ?_⟩
    refine ⟨_, rfl, rfl, _, rfl, ?_⟩
    unfold lateB at q
    by_cases hn : h = .non
    · rw [decide_eq_true hn] at q ⊢
      exact iteT q
    · rw [decide_eq_false hn, Bool.false_or] at q
      rw [decide_eq_false hn]
      exact iteF ⟨_, rfl, h, 0, 1000, rfl, ph, q⟩
end
section
variable {P : Program} {w : World} {K : PySem.W.Frag} {mg : Str → Option Value} {base : Heap}
/-! ### with_moment -/
def Md.addM (m : Md) (z : Str) : Md := { m with own := m.own ++ [z] }
def Md.addS (m : Md) (x : Wd) : Md := { m with wd := m.wd ++ [x] }
def Md.addT (m : Md) (x : Bd) : Md := { m with bd := m.bd ++ [x] }
def sp_with_moment (K : PySem.W.Frag) : Sp := fun vs H Q _ => ∃ (p : Addr) (m : Md) (z : Str), vs = [.ref p, .str z] ∧ WebAt (CW K) H p m ∧ Nm z ∧ ¬ z ∈ m.pts ∧ m.own.length < 10 ∧ ∀ (q : Addr) (H' : Hp), Same H H' → H q = none → WebAt (CW K) H' q (m.addM z) → Q (.ref q) H'
theorem met_Web_with_moment (T : Tp K mg) : Met P w K mg base 6 (CW K) "with_moment" (sp_with_moment K) := by
  obtain ⟨fd, F⟩ := f_Web_with_moment T
  refine met_of F (cl_Web T) (me_Web_with_moment T) (b_Web_with_moment F) sc_Web_with_moment (fun vs H Q E h => ?_) (fun cdv A outer s H vs Q E hr h => ?_)
  · obtain ⟨p, m, z, rfl, _⟩ := h
    rfl
  · obtain ⟨p, m, z, rfl, W, hn, hz, hl, q⟩ := h
    refine ⟨_, (pss_cons (ps_expr (C8.pe_c (cal_need_free_name T) hr (by decide) rfl (pa_cons (pv 0) (pa_cons (pv 1) pa_nil))))
      (pss_cons (ps_if (pt_cmpR op_ge (pe_callB call_len_seq (by rfl) (z_len T) bb_len (pa_cons (pe_fld (pv 0) rfl) pa_nil)) (C8.pe_gc (by rfl) (c_MOST_MOMENTS T)) (nomark _)) (pss_one ps_never) pss_nil)
      (pss_one (ps_ret (C8.pe_c (cal_woven T) hr (by decide) rfl (pa_cons (pe_fld (pv 0) rfl) (pa_cons (pe_tup (StX.pa_star (pe_fld (pv 0) rfl) (pa_cons (pv 1) pa_nil))) (pa_cons (pe_fld (pv 0) rfl) (pa_cons (pe_fld (pv 0) rfl) pa_nil))))))))), ?_⟩
    refine ⟨_, rfl, _, rfl, p, m, z, rfl, W, hn, hz, fun H1 s1 => ?_⟩
    have W1 := W.same s1
    obtain ⟨dx, a, b, c, ws, bs, h1, h2, h3, h4, h5, h6⟩ := W1.ex
    have hlen := W.len
    refine ⟨_, rfl, p, CW K, dx, _, _, rfl, h1, cl_Web T, na_moment_rows T, wf_m, a, _, rfl, .inr (.inl (.inl h2)), _, _, rfl, rfl, _, rfl, ?_⟩
    rw [decide_eq_false (by rw [List.length_map]; omega)]
    refine iteF ?_
    refine ⟨_, rfl, p, CW K, dx, _, _, rfl, h1, cl_Web T, na_by T, wf_by, _, rfl, p, CW K, dx, _, _, rfl, h1, cl_Web T, na_moment_rows T, wf_m, a, _, rfl, .inl (.inl (.inl h2)), _, rfl, ?_, fun t nt => ?_⟩
    · rw [List.length_append, List.length_map]
      exact Nat.le_of_lt (small1000 (by show _ + 1 ≤ 1000; omega))
    · have s2 := same_upd (o := .tup (m.own.map V.str ++ [.str z])) nt
      refine ⟨_, rfl, p, CW K, dx, _, _, rfl, s2 _ _ h1, cl_Web T, na_span_rows T, wf_s, _, rfl, p, CW K, dx, _, _, rfl, s2 _ _ h1, cl_Web T, na_tie_rows T, wf_t, ?_⟩
      refine ⟨m.addM z, t, b, c, ws, bs, rfl, ?_, s2 _ _ h3, h4.keep (Kt.of s2), s2 _ _ h5, h6.keep (Kt.of s2), ⟨?_, hlen.2.1, hlen.2.2⟩, W.last, fun x H2 s3 nx W3 => q x H2 ((s1.trans s2).trans s3) ((s1.trans s2).free nx) W3⟩
      · rw [upd_same]
        show _ = some (HO.tup ((m.own ++ [z]).map V.str))
        rw [List.map_append]
        rfl
      · show (m.own ++ [z]).length ≤ 10
        rw [List.length_append]
        show _ + 1 ≤ 10
        omega
/-! ### with_span -/
structure SpOk (m : Md) (x : Wd) : Prop where
  nm : Nm x.en
  fresh : ¬ x.en ∈ m.pts
  bg : x.bg = "start" ∨ x.bg ∈ m.own
  lo : 1 ≤ x.lo
  hi : x.lo ≤ x.hi
  top : x.hi ≤ 1000
  la : ∀ i, x.la = some i → 0 ≤ i ∧ i ≤ 1000
  few : m.wd.length < 4
def sp_with_span (K : PySem.W.Frag) : Sp := fun vs H Q _ => ∃ (p : Addr) (m : Md) (x : Wd), vs = [.ref p, .str x.en, .str x.bg, .int x.lo, .int x.hi, oV x.la] ∧ WebAt (CW K) H p m ∧ SpOk m x ∧ ∀ (q : Addr) (H' : Hp), Same H H' → H q = none → WebAt (CW K) H' q (m.addS x) → Q (.ref q) H'
theorem met_Web_with_span (T : Tp K mg) : MetN P w K mg base 6 (CW K) "with_span" (sp_with_span K) 5 ["late"] := by
  obtain ⟨fd, F⟩ := f_Web_with_span T
  refine ⟨_, fd, ["self", "end", "begin", "low", "high", "late"], _, cl_Web T, me_Web_with_span T, fnok_of (k := 5) F sc_Web_with_span (fun vs H Q E h => ?_) (fun cdv A outer s H vs Q E hr h => ?_), kbn_of F fun kV doc pm an cdv ct us ws h1 h2 => match us, ws, h1, h2 with
    | [_, _, _, _, _], [_], _, _ => rfl⟩
  · obtain ⟨p, m, x, rfl, _⟩ := h
    rfl
  · obtain ⟨p, m, x, rfl, W, S, q⟩ := h
    refine ⟨_, (pss_cons (ps_expr (C8.pe_c (cal_need_free_name T) hr (by decide) rfl (pa_cons (pv 0) (pa_cons (pv 1) pa_nil))))
      (pss_cons (ps_if (pt_not (pt_val (C8.pe_c (cal_is_begin T) hr (by decide) rfl (pa_cons (pv 0) (pa_cons (pv 2) pa_nil))))) (pss_one ps_never) pss_nil)
      (pss_cons (ps_if (pt_not (pt_val (C8.pe_c (cal_are_lengths T) hr (by decide) rfl (pa_cons (pv 3) (pa_cons (pv 4) pa_nil))))) (pss_one ps_never) pss_nil)
      (pss_cons (ps_if (pt_not (pt_val (C8.pe_c (cal_is_lateness T) hr (by decide) rfl (pa_cons (pv 5) pa_nil)))) (pss_one ps_never) pss_nil)
      (pss_cons (ps_if (pt_cmpR op_ge (pe_callB call_len_seq (by rfl) (z_len T) bb_len (pa_cons (pe_fld (pv 0) rfl) pa_nil)) (C8.pe_gc (by rfl) (c_MOST_SPANS T)) (nomark _)) (pss_one ps_never) pss_nil)
      (pss_cons (ps_set (i := 6) sc_Web_with_span.nd rfl (.inl rfl) (pe_tup (pa_cons (pv 1) (pa_cons (pv 2) (pa_cons (pv 3) (pa_cons (pv 4) (pa_cons (pv 5) pa_nil)))))))
      (pss_one (ps_ret (C8.pe_c (cal_woven T) hr (by decide) rfl (pa_cons (pe_fld (pv 0) rfl) (pa_cons (pe_fld (pv 0) rfl) (pa_cons (pe_tup (StX.pa_star (pe_fld (pv 0) rfl) (pa_cons (pv 6) pa_nil))) (pa_cons (pe_fld (pv 0) rfl) pa_nil))))))))))))), ?_⟩
    have hlen := W.len
    have few := S.few
    refine ⟨_, rfl, _, rfl, p, m, x.en, rfl, W, S.nm, S.fresh, fun H1 s1 => ?_⟩
    refine ⟨_, rfl, _, rfl, p, m, x.bg, rfl, W.same s1, S.bg, fun H2 s2 => ⟨_, rfl, iteF ?_⟩⟩
    have W2 := (W.same s1).same s2
    refine ⟨_, rfl, _, rfl, .int x.lo, .int x.hi, rfl, rfl, rfl, _, rfl, ?_⟩
    have eL : lenB (.int x.lo) (.int x.hi) = true := by
      show (decide (1 ≤ x.lo ∧ x.lo ≤ 1000) && decide (x.lo ≤ x.hi ∧ x.hi ≤ 1000)) = true
      rw [decide_eq_true ⟨S.lo, Int.le_trans S.hi S.top⟩, decide_eq_true ⟨S.hi, S.top⟩]
      rfl
    have eH : (plK (oV x.la)).isSome = true ∧ lateB (oV x.la) = true := by
      cases e : x.la with
      | none => exact ⟨rfl, rfl⟩
      | some i =>
        refine ⟨rfl, ?_⟩
        show (decide (V.int i = V.non) || decide (0 ≤ i ∧ i ≤ 1000)) = true
        rw [decide_eq_true (S.la i e), Bool.or_true]
    rw [eL]
    refine iteF ⟨_, rfl, oV x.la, rfl, eH.1, _, rfl, ?_⟩
    rw [eH.2]
    refine iteF ?_
    obtain ⟨dx, a, b, c, ws, bs, h1, h2, h3, h4, h5, h6⟩ := W2.ex
    have hw : ws.length = m.wd.length := by rw [h4.len, List.length_map]
    refine ⟨_, rfl, p, CW K, dx, _, _, rfl, h1, cl_Web T, na_span_rows T, wf_s, b, _, rfl, .inr (.inl (.inl h3)), _, _, rfl, rfl, _, rfl, ?_⟩
    rw [decide_eq_false (by rw [hw]; omega)]
    refine iteF ?_
    refine ⟨_, rfl, _, rfl, _, rfl, _, rfl, _, rfl, (by show 5 ≤ sizeLine; decide), fun t nt => ?_⟩
    have s3 := same_upd (o := .tup x.row) nt
    refine ⟨_, rfl, p, CW K, dx, _, _, rfl, s3 _ _ h1, cl_Web T, na_by T, wf_by, _, rfl, p, CW K, dx, _, _, rfl, s3 _ _ h1, cl_Web T, na_moment_rows T, wf_m, _, rfl, p, CW K, dx, _, _, rfl, s3 _ _ h1, cl_Web T, na_span_rows T, wf_s, b, _, rfl, .inl (.inl (.inl (s3 _ _ h3))), .ref t, rfl, ?_, fun u nu => ?_⟩
    · rw [List.length_append]
      exact Nat.le_of_lt (small1000 (by show _ + 1 ≤ 1000; omega))
    · have s4 := same_upd (o := .tup (ws ++ [.ref t])) nu
      have s5 := s3.trans s4
      refine ⟨_, rfl, p, CW K, dx, _, _, rfl, s5 _ _ h1, cl_Web T, na_tie_rows T, wf_t, ?_⟩
      have rw' : Rows (upd (upd H2 t (.tup x.row)) u (.tup (ws ++ [.ref t]))) (ws ++ [.ref t]) ((m.addS x).wd.map Wd.row) := by
        show Rows _ _ ((m.wd ++ [x]).map Wd.row)
        rw [List.map_append]
        exact (h4.keep (Kt.of s5)).snoc (s4 _ _ upd_same)
      refine ⟨m.addS x, a, u, c, ws ++ [V.ref t], bs, rfl, s5 _ _ h2, upd_same, rw', s5 _ _ h5, h6.keep (Kt.of s5), ⟨hlen.1, ?_, hlen.2.2⟩, W.last, fun y H5 s6 ny W5 => q y H5 (((s1.trans s2).trans s5).trans s6) (((s1.trans s2).trans s5).free ny) W5⟩
      show (m.wd ++ [x]).length ≤ 4
      rw [List.length_append]
      show _ + 1 ≤ 4
      omega
/-! ### with_tie -/
structure TiOk (m : Md) (x : Bd) : Prop where
  one : x.one ∈ m.pts
  oth : x.oth ∈ m.pts
  ne : ¬ x.one = x.oth
  b : BOk x.bot x.top
  few : m.bd.length < 40
def sp_with_tie (K : PySem.W.Frag) : Sp := fun vs H Q _ => ∃ (p : Addr) (m : Md) (x : Bd), vs = [.ref p, .str x.one, .str x.oth, oV x.bot, oV x.top] ∧ WebAt (CW K) H p m ∧ TiOk m x ∧ ∀ (q : Addr) (H' : Hp), Same H H' → H q = none → WebAt (CW K) H' q (m.addT x) → Q (.ref q) H'
theorem met_Web_with_tie (T : Tp K mg) : MetN P w K mg base 6 (CW K) "with_tie" (sp_with_tie K) 3 ["least", "most"] := by
  obtain ⟨fd, F⟩ := f_Web_with_tie T
  refine ⟨_, fd, ["self", "one", "other", "least", "most"], _, cl_Web T, me_Web_with_tie T, fnok_of (k := 5) F sc_Web_with_tie (fun vs H Q E h => ?_) (fun cdv A outer s H vs Q E hr h => ?_), kbn_of F fun kV doc pm an cdv ct us ws h1 h2 => match us, ws, h1, h2 with
    | [_, _, _], [_, _], _, _ => rfl⟩
  · obtain ⟨p, m, x, rfl, _⟩ := h
    rfl
  · obtain ⟨p, m, x, rfl, W, S, q⟩ := h
    refine ⟨_, (pss_cons (ps_expr (C8.pe_c (cal_need_point T) hr (by decide) rfl (pa_cons (pv 0) (pa_cons (pv 1) pa_nil))))
      (pss_cons (ps_expr (C8.pe_c (cal_need_point T) hr (by decide) rfl (pa_cons (pv 0) (pa_cons (pv 2) pa_nil))))
      (pss_cons (ps_if (PW.pt (pw_or (pt_cmpR op_eq (pv 1) (pv 2) (nomark _)) (pw_or1 (pt_not (pt_val (C8.pe_c (cal_are_bounds T) hr (by decide) rfl (pa_cons (pv 3) (pa_cons (pv 4) pa_nil)))))))) (pss_one ps_never) pss_nil)
      (pss_cons (ps_if (pt_cmpR op_ge (pe_callB call_len_seq (by rfl) (z_len T) bb_len (pa_cons (pe_fld (pv 0) rfl) pa_nil)) (C8.pe_gc (by rfl) (c_MOST_TIES T)) (nomark _)) (pss_one ps_never) pss_nil)
      (pss_cons (ps_set (i := 5) sc_Web_with_tie.nd rfl (.inl rfl) (pe_tup (pa_cons (pv 1) (pa_cons (pv 2) (pa_cons (pv 3) (pa_cons (pv 4) pa_nil))))))
      (pss_one (ps_ret (C8.pe_c (cal_woven T) hr (by decide) rfl (pa_cons (pe_fld (pv 0) rfl) (pa_cons (pe_fld (pv 0) rfl) (pa_cons (pe_fld (pv 0) rfl) (pa_cons (pe_tup (StX.pa_star (pe_fld (pv 0) rfl) (pa_cons (pv 5) pa_nil))) pa_nil)))))))))))), ?_⟩
    have hlen := W.len
    have few := S.few
    refine ⟨_, rfl, _, rfl, p, m, x.one, rfl, W, S.one, fun H1 s1 => ?_⟩
    refine ⟨_, rfl, _, rfl, p, m, x.oth, rfl, W.same s1, S.oth, fun H2 s2 => ?_⟩
    have W2 := (W.same s1).same s2
    refine ⟨_, rfl, _, rfl, rfl, _, rfl, ?_⟩
    rw [decide_eq_false (show ¬ V.str x.one = V.str x.oth from fun e => S.ne (V.str.inj e))]
    refine iteF ⟨_, rfl, _, rfl, x.bot, x.top, rfl, S.b, fun H3 s3 => ⟨_, rfl, iteF ?_⟩⟩
    have W3 := W2.same s3
    obtain ⟨dx, a, b, c, ws, bs, h1, h2, h3, h4, h5, h6⟩ := W3.ex
    have hb : bs.length = m.bd.length := by rw [h6.len, List.length_map]
    refine ⟨_, rfl, p, CW K, dx, _, _, rfl, h1, cl_Web T, na_tie_rows T, wf_t, c, _, rfl, .inr (.inl (.inl h5)), _, _, rfl, rfl, _, rfl, ?_⟩
    rw [decide_eq_false (by rw [hb]; omega)]
    refine iteF ?_
    refine ⟨_, rfl, _, rfl, _, rfl, _, rfl, (by show 4 ≤ sizeLine; decide), fun t nt => ?_⟩
    have s4 := same_upd (o := .tup x.row) nt
    refine ⟨_, rfl, p, CW K, dx, _, _, rfl, s4 _ _ h1, cl_Web T, na_by T, wf_by, _, rfl, p, CW K, dx, _, _, rfl, s4 _ _ h1, cl_Web T, na_moment_rows T, wf_m, _, rfl, p, CW K, dx, _, _, rfl, s4 _ _ h1, cl_Web T, na_span_rows T, wf_s, _, rfl, p, CW K, dx, _, _, rfl, s4 _ _ h1, cl_Web T, na_tie_rows T, wf_t, c, _, rfl, .inl (.inl (.inl (s4 _ _ h5))), .ref t, rfl, ?_, fun u nu => ?_⟩
    · rw [List.length_append]
      exact Nat.le_of_lt (small1000 (by show _ + 1 ≤ 1000; omega))
    · have s5 := same_upd (o := .tup (bs ++ [.ref t])) nu
      have s6 := s4.trans s5
      have rb' : Rows (upd (upd H3 t (.tup x.row)) u (.tup (bs ++ [.ref t]))) (bs ++ [.ref t]) ((m.addT x).bd.map Bd.row) := by
        show Rows _ _ ((m.bd ++ [x]).map Bd.row)
        rw [List.map_append]
        exact (h6.keep (Kt.of s6)).snoc (s5 _ _ upd_same)
      have sa := ((s1.trans s2).trans s3).trans s6
      refine ⟨m.addT x, a, b, u, ws, bs ++ [V.ref t], rfl, s6 _ _ h2, s6 _ _ h3, h4.keep (Kt.of s6), upd_same, rb', ⟨hlen.1, hlen.2.1, ?_⟩, W.last, fun y H5 s7 ny W5 => q y H5 (sa.trans s7) (sa.free ny) W5⟩
      show (m.bd ++ [x]).length ≤ 40
      rw [List.length_append]
      show _ + 1 ≤ 40
      omega
end
end Tw

set_option maxHeartbeats 4000000
namespace Tw
open PySem PySem.Spec PyProof.Rows L2
section
variable {P : Program} {w : World} {K : PySem.W.Frag} {mg : Str → Option Value} {base : Heap}
theorem fn_TideError (T : Tp K mg) {fd : FuncData} (F : FunD K "__init__" "TideError.__init__" (defArgs s_TideError_UinitU) (defBody s_TideError_UinitU) (defScope s_TideError_UinitU) [V.str "TideError", V.str "refused"] [] (He.ma K (He.ga K "TideError") "__init__") fd) : FnOk P w K mg base CX0 2 (He.ma K (He.ga K "TideError") "__init__") fd ["self", "word", "why"] (sp_miss bVE K) := by
  refine fnok_of F sc_TideError_UinitU (fun vs H Q E h => ?_) (fun cdv A outer s H vs Q E hr h => ?_)
  · obtain ⟨a, C, u, y, rfl, _⟩ := h
    rfl
  · obtain ⟨a, C, u, y, rfl, O, nw, ha, lu, ly, q⟩ := h
    refine ⟨_, (pss_cons (ps_expr (pe_binit bVE_ok bb_ValueError rfl (z_ValueError T) (vi_ValueError T) rfl (pa_cons (pv 0) (pa_cons (pe_joined (.cons (pe_fmt (pv 1)) (.cons pe_str (.cons (pe_fmt (pv 2)) .nil)))) pa_nil))))
      (pss_one (ps_ox (b := bVE) (pv 0) (pv 1)))), ?_⟩
    have l1 : (Str.empty ++ u).length ≤ 0 + 100 := app_le (show Str.empty.length ≤ 0 by decide) lu
    have l2 := app_le l1 (show (": " : Str).length ≤ 2 by decide +kernel)
    have l3 := app_le l2 ly
    refine ⟨_, rfl, _, rfl, .inl ⟨u, rfl, short (show u.length ≤ 100 from lu) (by decide), u, rfl, short l1 (by decide), _, rfl, short l2 (by decide), _, rfl, .inl ⟨y, rfl, short (show y.length ≤ 100 from ly) (by decide), y, rfl, short l3 (by decide), ?_⟩⟩⟩
    refine ⟨a, C, _, rfl, by show 1 ≤ 1000; decide, O, ha, ?_⟩
    exact ⟨_, rfl, _, rfl, a, C, rfl, O, nw, .inl ⟨ha, q⟩⟩
theorem b_TideError {fd : FuncData} (F : FunD K "__init__" "TideError.__init__" (defArgs s_TideError_UinitU) (defBody s_TideError_UinitU) (defScope s_TideError_UinitU) [V.str "TideError", V.str "refused"] [] (He.ma K (He.ga K "TideError") "__init__") fd) : Binds K fd ["self", "word", "why"] [] := by
  obtain ⟨ds, hv, hb⟩ := F.binds1 (ps := ["self", "word", "why"]) 3 2 (by simp) rfl fun T kV doc pm an cdv ct us its h1 h2 => match us, its, h1, h2 with
    | [_, _, _], [_, _], _, _ => ⟨_, rfl, rfl⟩
  have hv : Vals [] ds := hv
  cases hv
  exact hb
theorem fn_Missing (T : Tp K mg) {fd : FuncData} (F : FunD K "__init__" "Missing.__init__" (defArgs s_Missing_UinitU) (defBody s_Missing_UinitU) (defScope s_Missing_UinitU) [V.str "Missing", V.str "refused"] [] (He.ma K (He.ga K "Missing") "__init__") fd) : FnOk P w K mg base CX0 2 (He.ma K (He.ga K "Missing") "__init__") fd ["self", "word", "why"] (sp_miss bLE K) := by
  refine fnok_of F sc_Missing_UinitU (fun vs H Q E h => ?_) (fun cdv A outer s H vs Q E hr h => ?_)
  · obtain ⟨a, C, u, y, rfl, _⟩ := h
    rfl
  · obtain ⟨a, C, u, y, rfl, O, nw, ha, lu, ly, q⟩ := h
    refine ⟨_, (pss_cons (ps_expr (pe_binit bLE_ok bb_LookupError rfl (z_LookupError T) (vi_LookupError T) rfl (pa_cons (pv 0) (pa_cons (pe_joined (.cons (pe_fmt (pv 1)) (.cons pe_str (.cons (pe_fmt (pv 2)) .nil)))) pa_nil))))
      (pss_one (ps_ox (b := bLE) (pv 0) (pv 1)))), ?_⟩
    have l1 : (Str.empty ++ u).length ≤ 0 + 100 := app_le (show Str.empty.length ≤ 0 by decide) lu
    have l2 := app_le l1 (show (": " : Str).length ≤ 2 by decide +kernel)
    have l3 := app_le l2 ly
    refine ⟨_, rfl, _, rfl, .inl ⟨u, rfl, short (show u.length ≤ 100 from lu) (by decide), u, rfl, short l1 (by decide), _, rfl, short l2 (by decide), _, rfl, .inl ⟨y, rfl, short (show y.length ≤ 100 from ly) (by decide), y, rfl, short l3 (by decide), ?_⟩⟩⟩
    refine ⟨a, C, _, rfl, by show 1 ≤ 1000; decide, O, ha, ?_⟩
    exact ⟨_, rfl, _, rfl, a, C, rfl, O, nw, .inl ⟨ha, q⟩⟩
theorem b_Missing {fd : FuncData} (F : FunD K "__init__" "Missing.__init__" (defArgs s_Missing_UinitU) (defBody s_Missing_UinitU) (defScope s_Missing_UinitU) [V.str "Missing", V.str "refused"] [] (He.ma K (He.ga K "Missing") "__init__") fd) : Binds K fd ["self", "word", "why"] [] := by
  obtain ⟨ds, hv, hb⟩ := F.binds1 (ps := ["self", "word", "why"]) 3 2 (by simp) rfl fun T kV doc pm an cdv ct us its h1 h2 => match us, its, h1, h2 with
    | [_, _, _], [_, _], _, _ => ⟨_, rfl, rfl⟩
  have hv : Vals [] ds := hv
  cases hv
  exact hb
theorem mkx_BadBy (T : Tp K mg) : MkB bVE P w K mg base 3 "BadBy" (He.ga K "BadBy") (sp_exc1 K (He.ga K "BadBy") "BadBy" "by") := by
  obtain ⟨fd, F⟩ := f_BadBy_UinitU T
  obtain ⟨fdT, FT⟩ := f_TideError_UinitU T
  have F1 := fn_TideError (P := P) (w := w) (base := base) T FT
  have kp := FT.kp
  have b1 := b_TideError FT
  refine ⟨_, fd, ["self", "by"], oe_BadBy T, in_BadBy T, fnok_of F sc_BadBy_UinitU (fun vs H Q E h => ?_) (fun cdv A outer s H vs Q E hr h => ?_), g_BadBy T, b_BadBy_UinitU F⟩
  · obtain ⟨a, v, rfl, _⟩ := h
    rfl
  · obtain ⟨a, v, rfl, ha, q⟩ := h
    refine ⟨_, (pss_cons (ps_expr (pe_ci (cd_TideError T) rfl (g_TideError T) kp F1 hr (by decide) b1 (pa_cons (pv 0) (pa_cons pe_str (pa_cons pe_str pa_nil)))))
      (pss_one (ps_ox (b := bVE) (pv 0) (pv 1)))), ?_⟩
    refine ⟨_, rfl, a, He.ga K "BadBy", _, _, rfl, oe_BadBy T, nf_BadBy_word T, ha, by decide +kernel, by decide +kernel, fun d nd da => ?_⟩
    refine ⟨_, rfl, _, rfl, a, He.ga K "BadBy", rfl, oe_BadBy T, nf_BadBy_by T, .inr ⟨d, _, upd_same, by rw [upd_ne da]; exact upd_same, by show 1 ≤ 900; decide, ?_⟩⟩
    refine q d _ nd da (fun b h1 h2 => ?_) ?_ upd_same
    · rw [upd_ne h2, upd_ne h1, upd_ne h2]
    · rw [upd_ne (Ne.symm da)]
      exact upd_same
theorem mkx_NoPoint (T : Tp K mg) : MkB bLE P w K mg base 3 "NoPoint" (He.ga K "NoPoint") (sp_exc1 K (He.ga K "NoPoint") "NoPoint" "name") := by
  obtain ⟨fd, F⟩ := f_NoPoint_UinitU T
  obtain ⟨fdT, FT⟩ := f_Missing_UinitU T
  have F1 := fn_Missing (P := P) (w := w) (base := base) T FT
  have kp := FT.kp
  have b1 := b_Missing FT
  refine ⟨_, fd, ["self", "name"], oe_NoPoint T, in_NoPoint T, fnok_of F sc_NoPoint_UinitU (fun vs H Q E h => ?_) (fun cdv A outer s H vs Q E hr h => ?_), g_NoPoint T, b_NoPoint_UinitU F⟩
  · obtain ⟨a, v, rfl, _⟩ := h
    rfl
  · obtain ⟨a, v, rfl, ha, q⟩ := h
    refine ⟨_, (pss_cons (ps_expr (pe_ci (cd_Missing T) rfl (g_Missing T) kp F1 hr (by decide) b1 (pa_cons (pv 0) (pa_cons pe_str (pa_cons pe_str pa_nil)))))
      (pss_one (ps_ox (b := bLE) (pv 0) (pv 1)))), ?_⟩
    refine ⟨_, rfl, a, He.ga K "NoPoint", _, _, rfl, oe_NoPoint T, nf_NoPoint_word T, ha, by decide +kernel, by decide +kernel, fun d nd da => ?_⟩
    refine ⟨_, rfl, _, rfl, a, He.ga K "NoPoint", rfl, oe_NoPoint T, nf_NoPoint_name T, .inr ⟨d, _, upd_same, by rw [upd_ne da]; exact upd_same, by show 1 ≤ 900; decide, ?_⟩⟩
    refine q d _ nd da (fun b h1 h2 => ?_) ?_ upd_same
    · rw [upd_ne h2, upd_ne h1, upd_ne h2]
    · rw [upd_ne (Ne.symm da)]
      exact upd_same
theorem mkx_Used (T : Tp K mg) : MkB bVE P w K mg base 3 "Used" (He.ga K "Used") (sp_exc1 K (He.ga K "Used") "Used" "name") := by
  obtain ⟨fd, F⟩ := f_Used_UinitU T
  obtain ⟨fdT, FT⟩ := f_TideError_UinitU T
  have F1 := fn_TideError (P := P) (w := w) (base := base) T FT
  have kp := FT.kp
  have b1 := b_TideError FT
  refine ⟨_, fd, ["self", "name"], oe_Used T, in_Used T, fnok_of F sc_Used_UinitU (fun vs H Q E h => ?_) (fun cdv A outer s H vs Q E hr h => ?_), g_Used T, b_Used_UinitU F⟩
  · obtain ⟨a, v, rfl, _⟩ := h
    rfl
  · obtain ⟨a, v, rfl, ha, q⟩ := h
    refine ⟨_, (pss_cons (ps_expr (pe_ci (cd_TideError T) rfl (g_TideError T) kp F1 hr (by decide) b1 (pa_cons (pv 0) (pa_cons pe_str (pa_cons pe_str pa_nil)))))
      (pss_one (ps_ox (b := bVE) (pv 0) (pv 1)))), ?_⟩
    refine ⟨_, rfl, a, He.ga K "Used", _, _, rfl, oe_Used T, nf_Used_word T, ha, by decide +kernel, by decide +kernel, fun d nd da => ?_⟩
    refine ⟨_, rfl, _, rfl, a, He.ga K "Used", rfl, oe_Used T, nf_Used_name T, .inr ⟨d, _, upd_same, by rw [upd_ne da]; exact upd_same, by show 1 ≤ 900; decide, ?_⟩⟩
    refine q d _ nd da (fun b h1 h2 => ?_) ?_ upd_same
    · rw [upd_ne h2, upd_ne h1, upd_ne h2]
    · rw [upd_ne (Ne.symm da)]
      exact upd_same
theorem mkx_NoTie (T : Tp K mg) : MkB bLE P w K mg base 3 "NoTie" (He.ga K "NoTie") (sp_exc1 K (He.ga K "NoTie") "NoTie" "at") := by
  obtain ⟨fd, F⟩ := f_NoTie_UinitU T
  obtain ⟨fdT, FT⟩ := f_Missing_UinitU T
  have F1 := fn_Missing (P := P) (w := w) (base := base) T FT
  have kp := FT.kp
  have b1 := b_Missing FT
  refine ⟨_, fd, ["self", "at"], oe_NoTie T, in_NoTie T, fnok_of F sc_NoTie_UinitU (fun vs H Q E h => ?_) (fun cdv A outer s H vs Q E hr h => ?_), g_NoTie T, b_NoTie_UinitU F⟩
  · obtain ⟨a, v, rfl, _⟩ := h
    rfl
  · obtain ⟨a, v, rfl, ha, q⟩ := h
    refine ⟨_, (pss_cons (ps_expr (pe_ci (cd_Missing T) rfl (g_Missing T) kp F1 hr (by decide) b1 (pa_cons (pv 0) (pa_cons pe_str (pa_cons pe_str pa_nil)))))
      (pss_one (ps_ox (b := bLE) (pv 0) (pv 1)))), ?_⟩
    refine ⟨_, rfl, a, He.ga K "NoTie", _, _, rfl, oe_NoTie T, nf_NoTie_word T, ha, by decide +kernel, by decide +kernel, fun d nd da => ?_⟩
    refine ⟨_, rfl, _, rfl, a, He.ga K "NoTie", rfl, oe_NoTie T, nf_NoTie_at T, .inr ⟨d, _, upd_same, by rw [upd_ne da]; exact upd_same, by show 1 ≤ 900; decide, ?_⟩⟩
    refine q d _ nd da (fun b h1 h2 => ?_) ?_ upd_same
    · rw [upd_ne h2, upd_ne h1, upd_ne h2]
    · rw [upd_ne (Ne.symm da)]
      exact upd_same
end
end Tw

set_option maxHeartbeats 4000000
namespace Tw
open PySem PySem.Spec PyProof.Rows L2
def inL (c : Nat) : Bool := decide (c ∈ letters.cps.toList)
def nmB (z : Str) : Bool := decide (1 ≤ z.length) && (decide (z.length ≤ 8) && z.cps.toList.all inL)
theorem nmB_ok {z : Str} : nmB z = true ↔ Nm z := by
  unfold nmB Nm inL
  simp only [Bool.and_eq_true, decide_eq_true_eq, List.all_eq_true]
end Tw

set_option maxHeartbeats 4000000
namespace Tw
open PySem PySem.Spec PyProof.Rows L2
def usedB (m : Md) (z : Str) : Bool := decide (z ∈ m.wd.map (·.bg)) || m.bd.any fun b => decide (z ∈ [b.one, b.oth])
def Md.drp (m : Md) (z : Str) : Md := { m with own := m.own.filter fun x => !decide (x = z), wd := m.wd.filter fun x => !decide (x.en = z) }
def Md.unt (m : Md) (i : Nat) : Md := { m with bd := m.bd.eraseIdx i }
theorem bb_any : bootBuiltins "any" = some (.builtin "any") := by decide +kernel
theorem fm_map {α β : Type} (l : List α) (f : α → β) : l.filterMap (fun x => some (f x)) = l.map f := by
  induction l with
  | nil => rfl
  | cons a r ih => rw [List.filterMap_cons, List.map_cons, ih]
theorem fm_filter {α : Type} (l : List α) (p : α → Bool) : l.filterMap (fun x => if p x = true then some x else none) = l.filter p := by
  induction l with
  | nil => rfl
  | cons a r ih =>
    rw [List.filterMap_cons, List.filter_cons, ih]
    cases p a <;> rfl
theorem Rows.erase {H : Hp} : ∀ {xs : List V} {rs : List (List V)} (i : Nat), Rows H xs rs → Rows H (xs.eraseIdx i) (rs.eraseIdx i)
  | _, _, 0, .nil => .nil
  | _, _, _ + 1, .nil => .nil
  | _, _, 0, .cons _ t => t
  | _, _, i + 1, .cons h t => .cons h (Rows.erase i t)
theorem erase_mapX {α β : Type} (f : α → β) : ∀ (l : List α) (i : Nat), (l.eraseIdx i).map f = (l.map f).eraseIdx i
  | [], _ => rfl
  | _ :: _, 0 => rfl
  | a :: r, i + 1 => by
    show f a :: (r.eraseIdx i).map f = f a :: (r.map f).eraseIdx i
    rw [erase_mapX f r i]
theorem cut_erase {xs : List V} {i : Nat} (h : i < xs.length) : cutV xs none (some (i : Int)) ++ cutV xs (some ((i : Int) + 1)) none = xs.eraseIdx i := by
  unfold cutV
  rw [HT.sIx_none, HT.sIx_none, HT.sIx_nat, show ((i : Int) + 1) = ((i + 1 : Nat) : Int) from rfl, HT.sIx_nat, List.drop_zero, Nat.sub_zero, Nat.min_eq_left (Nat.le_of_lt h), Nat.min_eq_left (show i + 1 ≤ xs.length from h), List.eraseIdx_eq_take_drop_succ]
  congr 1
  exact List.take_of_length_le (by rw [List.length_drop]; exact Nat.le_refl _)
section
variable {P : Program} {w : World} {K : PySem.W.Frag} {mg : Str → Option Value} {base : Heap}
/-! ### woven of two lists -/
def sp_wovenL (K : PySem.W.Frag) : Sp := fun vs H Q _ => ∃ (m : Md) (a b c : Addr) (ws bs : List V), vs = [.int m.last, .ref a, .ref b, .ref c] ∧ H a = some (.lst (m.own.map V.str)) ∧ H b = some (.lst ws) ∧ Rows H ws (m.wd.map Wd.row) ∧ H c = some (.tup bs) ∧ Rows H bs (m.bd.map Bd.row) ∧
  (m.own.length ≤ 10 ∧ m.wd.length ≤ 4 ∧ m.bd.length ≤ 40) ∧ (1 ≤ m.last ∧ m.last ≤ 1000) ∧ ∀ (p : Addr) (H' : Hp), Same H H' → H p = none → WebAt (CW K) H' p m → Q (.ref p) H'
theorem cal_wovenL (T : Tp K mg) : Cal P w K mg base 5 "woven" (sp_wovenL K) := by
  obtain ⟨fd, F⟩ := f_woven T
  refine cal_of F (g_woven T) (b_woven F) sc_woven (fun vs H Q E h => ?_) (fun cdv A outer s H vs Q E hr h => ?_)
  · obtain ⟨m, a, b, c, ws, bs, rfl, _⟩ := h
    rfl
  · obtain ⟨m, a, b, c, ws, bs, rfl, ha, hb, rb, hc, rc, hl, hla, q⟩ := h
    refine ⟨_, (pss_cons (ps_set (i := 4) sc_woven.nd rfl (.inl rfl) (C8.pe_mk (mak_Web T) hr (by decide) rfl (pa_cons (pv 0) pa_nil)))
      (pss_cons (ps_fld (pv 4) (pe_callTy call_tuple_of (by rfl) (z_tuple T) bb_tuple (pa_cons (pv 1) pa_nil)) rfl)
      (pss_cons (ps_fld (pv 4) (pe_callTy call_tuple_of (by rfl) (z_tuple T) bb_tuple (pa_cons (pv 2) pa_nil)) rfl)
      (pss_cons (ps_fld (pv 4) (pe_callTy call_tuple_of (by rfl) (z_tuple T) bb_tuple (pa_cons (pv 3) pa_nil)) rfl)
      (pss_one (ps_ret (pv 4))))))), ?_⟩
    refine ⟨_, rfl, fun x dx nx ndx ne => ⟨x, dx, m.last, rfl, upd_same, hla.1, hla.2, fun a0 b0 c0 H1 kp hp ha0 hb0 hc0 => ⟨rfl, ?_⟩⟩⟩
    have s1 : Same H H1 := Same.made nx ndx kp
    have nbx : b ≠ x := ne_of_none hb nx
    have ncx : c ≠ x := ne_of_none hc nx
    refine ⟨_, rfl, a, _, rfl, .inl ⟨.inl (.inl (s1 _ _ ha)), fun ta nta => ?_⟩⟩
    have nxa : x ≠ ta := ne_of_none hp nta
    refine ⟨_, rfl, x, CW K, dx, _, rfl, (by rw [upd_ne nxa]; exact hp), cl_Web T, na_moment_rows T, (by show 4 < 1000; decide), ?_⟩
    have s2 : Same H (upd (upd H1 ta (.tup (m.own.map V.str))) x (.ins (CW K) dx (putF "moment_rows" (.ref ta) (wf m.last a0 b0 c0)))) := fun y o e => by
      rw [upd_ne (ne_of_none e nx), upd_ne (ne_of_none (s1 _ _ e) nta)]
      exact s1 _ _ e
    refine ⟨_, rfl, b, _, rfl, .inl ⟨.inl (.inl (s2 _ _ hb)), fun tb ntb => ?_⟩⟩
    have nxb : x ≠ tb := fun e => by
      rw [← e, upd_same] at ntb
      cases ntb
    have nab : ta ≠ tb := fun e => by
      rw [← e, upd_ne nxa.symm, upd_same] at ntb
      cases ntb
    refine ⟨_, rfl, x, CW K, dx, _, rfl, (by rw [upd_ne nxb]; exact up_eq (by rw [wf_pm])), cl_Web T, na_span_rows T, (by show 4 < 1000; decide), ?_⟩
    have s3 : Same H (upd (upd (upd (upd H1 ta (.tup (m.own.map V.str))) x (.ins (CW K) dx (putF "moment_rows" (.ref ta) (wf m.last a0 b0 c0)))) tb (.tup ws)) x (.ins (CW K) dx (putF "span_rows" (.ref tb) (wf m.last ta b0 c0)))) := fun y o e => by
      rw [upd_ne (ne_of_none e nx), upd_ne (ne_of_none (s2 _ _ e) ntb)]
      exact s2 _ _ e
    refine ⟨_, rfl, c, _, rfl, .inr ⟨.inl (.inl (s3 _ _ hc)), _, rfl, x, CW K, dx, _, rfl, up_eq (by rw [wf_ps]), cl_Web T, na_tie_rows T, (by show 4 < 1000; decide), ?_⟩⟩
    refine ⟨_, rfl, ?_⟩
    have s4 : ∀ o', Same H (upd (upd (upd (upd (upd H1 ta (.tup (m.own.map V.str))) x (.ins (CW K) dx (putF "moment_rows" (.ref ta) (wf m.last a0 b0 c0)))) tb (.tup ws)) x (.ins (CW K) dx (putF "span_rows" (.ref tb) (wf m.last ta b0 c0)))) x o') := fun o' y o e => by
      rw [upd_ne (ne_of_none e nx)]
      exact s3 _ _ e
    refine q x _ (s4 _) nx ⟨⟨dx, ta, tb, c, ws, bs, up_eq (by rw [wf_pt]), ?_, ?_, rb.keep (Kt.of (s4 _)), s4 _ _ _ hc, rc.keep (Kt.of (s4 _))⟩, hl, hla⟩
    · rw [upd_ne nxa.symm, upd_ne nxa.symm, upd_ne nab, upd_ne nxa.symm, upd_same]
    · rw [upd_ne nxb.symm, upd_ne nxb.symm, upd_same]
/-! ### is_used -/
def sp_is_used (K : PySem.W.Frag) : Sp := fun vs H Q _ => ∃ (p : Addr) (m : Md) (z : Str), vs = [.ref p, .str z] ∧ WebAt (CW K) H p m ∧ ∀ H', Same H H' → Q (.bl (usedB m z)) H'
theorem cal_is_used (T : Tp K mg) : Cal P w K mg base 3 "is_used" (sp_is_used K) := by
  obtain ⟨fd, F⟩ := f_is_used T
  refine cal_of F (g_is_used T) (b_is_used F) sc_is_used (fun vs H Q E h => ?_) (fun cdv A outer s H vs Q E hr h => ?_)
  · obtain ⟨p, m, z, rfl, _⟩ := h
    rfl
  · obtain ⟨p, m, z, rfl, W, q⟩ := h
    have hlen := W.len
    obtain ⟨dx, a, b, c, ws0, bs0, h1, _⟩ := W.ex
    refine ⟨_, (pss_cons (ps_setLc (i := 2) (own := [("span", 3)]) (g := gName 3) (tt := tYes) rfl sc_is_used.nd rfl rfl (sw_true rfl rfl rfl (by decide +kernel)) (pi_list (C8.pe_mt0 (met_Web_spans T) hr (by decide) (pv 0))) (blkOk_by (N := N_is_used) (sc := defScope s_is_used) (by decide +kernel)) (fun _ _ _ _ _ => (pg_name (i := 3) sc_is_used.nd rfl (.inl rfl))) (fun _ _ _ _ _ => pts_nil) (fun _ _ _ _ _ => (pe_ix (ix_tupK (K := K) rfl) (pv 3) pe_int (fun _ _ => rfl))))
      (pss_one (ps_ret (pe_or (pe_cmpR op_in_seq (pv 1) (pv 2) (by rfl)) (pe_one (pe_callB (cr_any rfl) (by rfl) (z_any T) bb_any (pa_cons (pe_lc (own := [("tie", 4)]) (g := gName 4) (tt := tYes) rfl sc_is_used.nd (pi_list (C8.pe_mt0 (met_Web_ties T) hr (by decide) (pv 0))) (blkOk_by (N := N_is_used) (sc := defScope s_is_used) (by decide +kernel)) (fun _ _ _ _ _ => (pg_name (i := 4) sc_is_used.nd rfl (.inl rfl))) (fun _ _ _ _ _ => pts_nil) (fun _ _ _ _ _ => (pe_cmpR (op_in_seqK (K := K) rfl) (pv 1) (pe_slice (sl_tupK (K := K) rfl) (pv 4) po_none (po_some pe_int)) (by rfl)))) pa_nil))))))), ?_⟩
    refine ⟨_, rfl, p, dx, _, rfl, h1, wf_no (by decide +kernel), p, m, rfl, W, fun ws l rw1 nl => ⟨l, rfl, ⟨_, .inl (.inl upd_same)⟩, fun D nD => ?_⟩⟩
    have s0 := same_upd (o := .lst ws) nl
    refine lc_pure m.wd (walk_listN (by rw [rw1.len, List.length_map])) (fun x => some x.bg) (SV V.str) (fun _ h => h) nD (by omega) (fun H1 s1 => .inl (.inl (s1 _ _ upd_same))) ?_ ?_
    · rintro i x v H1 H1' ex s1 ⟨rfl, hv⟩ Good Bad kt kf
      obtain ⟨t, rfl, ht⟩ := rows_at rw1 hv ex
      exact ⟨rfl, yes_i (iteT ⟨_, rfl, t, _, 1, _, rfl, rfl, .inl (.inl (s1 _ _ (s0 _ _ ht))), atI_nat (j := 1) rfl, kt _ _ _ rfl (Same.refl _) rfl⟩)⟩
    · intro H2 acc s2 d2 p2
      have ea := paired_enc p2
      rw [fm_map] at ea
      subst ea
      have sA := s0.trans s2
      refine ⟨_, rfl, _, rfl, D, _, rfl, .inl (.inl (.inl d2)), rfl, flat_strs _, _, rfl, ?_⟩
      show if inV (.str z) ((m.wd.map (·.bg)).map V.str) = true then _ else _
      rw [in_strs]
      unfold usedB at q
      by_cases hz : z ∈ m.wd.map (·.bg)
      · rw [decide_eq_true hz] at q ⊢
        exact iteT (q H2 sA)
      · rw [decide_eq_false hz] at q ⊢
        refine iteF ?_
        have W2 := W.same sA
        obtain ⟨dx, a, b, c, ws0, bs0, h1, _⟩ := W2.ex
        refine ⟨_, rfl, p, dx, _, rfl, h1, wf_no (by decide +kernel), p, m, rfl, W2, fun bs l rw1 nl => ⟨l, rfl, ⟨_, .inl (.inl upd_same)⟩, fun D nD => ?_⟩⟩
        have s3 := same_upd (o := .lst bs) nl
        refine lc_pure m.bd (walk_listN (by rw [rw1.len, List.length_map])) (fun x => some (decide (z ∈ [x.one, x.oth]))) (SV V.bl) (fun _ h => h) nD (by omega) (fun H1 s1 => .inl (.inl (s1 _ _ upd_same))) ?_ ?_
        · rintro i x v H1 H1' ex s1 ⟨rfl, hv⟩ Good Bad kt kf
          obtain ⟨t, rfl, ht⟩ := rows_at rw1 hv ex
          refine ⟨rfl, yes_i (iteT ⟨_, rfl, _, rfl, 2, rfl, t, _, rfl, .inl (.inl (s1 _ _ (s3 _ _ ht))), (by rintro ⟨_, e⟩; cases e), fun u nu => ⟨u, _, rfl, .inr (.inl (.inl upd_same)), rfl, rfl, ?_⟩⟩)⟩
          refine kt _ _ _ rfl (same_upd nu) ?_
          show V.bl (inV (.str z) ([x.one, x.oth].map V.str)) = _
          rw [in_strs]
        · intro H4 acc s4 d4 p4
          have ea := paired_enc p4
          rw [fm_map] at ea
          subst ea
          refine ⟨D, _, rfl, .inl (.inl d4), ?_⟩
          rw [List.any_map]
          exact q H4 ((sA.trans s3).trans s4)
/-! ### need_point, without, without_tie with what they refuse -/
def sp_npB (K : PySem.W.Frag) : Sp := fun vs H Q E => ∃ (p : Addr) (m : Md) (z : Str), vs = [.ref p, .str z] ∧ WebAt (CW K) H p m ∧ (¬ z ∈ m.pts → Out H E (He.ga K "NoPoint") "NoPoint" "name" (.str z)) ∧ (z ∈ m.pts → ∀ H', Same H H' → Q .non H')
theorem calx_need_point (T : Tp K mg) : CalX P w K mg base 5 "need_point" (sp_npB K) := by
  obtain ⟨fd, F⟩ := f_need_point T
  refine calx_of F (g_need_point T) (b_need_point F) sc_need_point (fun vs H Q E h => ?_) (fun cdv A outer s H vs Q E hr h tk => ?_)
  · obtain ⟨p, m, z, rfl, _⟩ := h
    rfl
  · obtain ⟨p, m, z, rfl, W, o, q⟩ := h
    obtain ⟨dx, a, b, c, ws, bs, h1, _⟩ := W.ex
    refine ⟨_, (pss_one (ps_if (pt_not (pt_val (C8.pe_c (cal_is_one_of T) hr (by decide) rfl (pa_cons (pv 1) (pa_cons (C8.pe_mt0 (met_Web_points T) hr (by decide) (pv 0)) pa_nil))))) (pss_one (ps_raise rfl tk (pmk_b (mkx_NoPoint T) hr (by decide) rfl (pa_cons (pv 1) pa_nil)))) pss_nil)), ?_⟩
    refine ⟨_, rfl, _, rfl, p, dx, _, rfl, h1, wf_no (by decide +kernel), p, m, rfl, W, fun k H2 s2 nk ek => ?_⟩
    refine ⟨z, k, _, rfl, ek, _, rfl, ?_⟩
    by_cases hz : z ∈ m.pts
    · rw [decide_eq_true hz]
      exact iteF (q hz H2 s2)
    · rw [decide_eq_false hz]
      exact iteT ⟨_, rfl, mk_out ((o hz).same s2)⟩
def sp_woX (K : PySem.W.Frag) : Sp := fun vs H Q E => ∃ (p : Addr) (m : Md) (z : Str), vs = [.ref p, .str z] ∧ WebAt (CW K) H p m ∧ (¬ z ∈ m.pts ∨ z = "start" → Out H E (He.ga K "NoPoint") "NoPoint" "name" (.str z)) ∧
  (z ∈ m.pts → ¬ z = "start" → usedB m z = true → Out H E (He.ga K "Used") "Used" "name" (.str z)) ∧
  (z ∈ m.pts → ¬ z = "start" → usedB m z = false → ∀ (q : Addr) (H' : Hp), Same H H' → H q = none → WebAt (CW K) H' q (m.drp z) → Q (.ref q) H')
theorem metx_Web_without (T : Tp K mg) : MetX P w K mg base 6 (CW K) "without" (sp_woX K) := by
  obtain ⟨fd, F⟩ := f_Web_without T
  refine metx_of F (cl_Web T) (me_Web_without T) (b_Web_without F) sc_Web_without (fun vs H Q E h => ?_) (fun cdv A outer s H vs Q E hr h tk => ?_)
  · obtain ⟨p, m, z, rfl, _⟩ := h
    rfl
  · obtain ⟨p, m, z, rfl, W, o1, o2, q⟩ := h
    refine ⟨_, (pss_cons (ps_expr (pe_cx (calx_need_point T) tk (fun _ _ _ _ h => h) hr (by decide) rfl (pa_cons (pv 0) (pa_cons (pv 1) pa_nil))))
      (pss_cons (ps_if (pt_cmpR op_eq (pv 1) (C8.pe_gc (by rfl) (c_START T)) (nomark _)) (pss_one (ps_raise rfl tk (pmk_b (mkx_NoPoint T) hr (by decide) rfl (pa_cons (pv 1) pa_nil)))) pss_nil)
      (pss_cons (ps_if (pt_val (C8.pe_c (cal_is_used T) hr (by decide) rfl (pa_cons (pv 0) (pa_cons (pv 1) pa_nil)))) (pss_one (ps_raise rfl tk (pmk_b (mkx_Used T) hr (by decide) rfl (pa_cons (pv 1) pa_nil)))) pss_nil)
      (pss_cons (ps_setLc (i := 2) (own := [("moment", 4)]) (g := gName 4) rfl sc_Web_without.nd rfl rfl (sw_true rfl rfl rfl (by decide +kernel)) (pi_tup (pe_fld (pv 0) rfl)) (blkOk_by (N := N_Web_without) (sc := defScope s_Web_without) (by decide +kernel)) (fun _ _ _ _ _ => (pg_name (i := 4) sc_Web_without.nd rfl (.inl rfl))) (fun _ _ _ _ _ => (pts_one (pt_cmpR op_ne (pv 4) (pv 1) (nomark _)))) (fun _ _ _ _ _ => (pv 4)))
      (pss_cons (ps_setLc (i := 3) (own := [("span", 5)]) (g := gName 5) rfl sc_Web_without.nd rfl rfl (sw_true rfl rfl rfl (by decide +kernel)) (pi_tup (pe_fld (pv 0) rfl)) (blkOk_by (N := N_Web_without) (sc := defScope s_Web_without) (by decide +kernel)) (fun _ _ _ _ _ => (pg_name (i := 5) sc_Web_without.nd rfl (.inl rfl))) (fun _ _ _ _ _ => (pts_one (pt_cmpR op_ne (pe_ix (ix_tupK (K := K) rfl) (pv 5) pe_int (fun _ _ => rfl)) (pv 1) (nomark _)))) (fun _ _ _ _ _ => (pv 5)))
      (pss_one (ps_ret (C8.pe_c (cal_wovenL T) hr (by decide) rfl (pa_cons (pe_fld (pv 0) rfl) (pa_cons (pv 2) (pa_cons (pv 3) (pa_cons (pe_fld (pv 0) rfl) pa_nil)))))))))))), ?_⟩
    refine ⟨_, rfl, _, rfl, p, m, z, rfl, W, fun hz => o1 (.inl hz), fun hz H1 s1 => ?_⟩
    refine ⟨_, rfl, rfl, _, rfl, ?_⟩
    by_cases hs : z = "start"
    · rw [decide_eq_true (show V.str z = V.str "start" by rw [hs])]
      exact iteT ⟨_, rfl, mk_out ((o1 (.inr hs)).same s1)⟩
    · rw [decide_eq_false (show ¬ V.str z = V.str "start" from fun e => hs (V.str.inj e))]
      refine iteF ⟨_, rfl, _, rfl, p, m, z, rfl, W.same s1, fun H2 s2 => ⟨_, rfl, ?_⟩⟩
      cases hu : usedB m z with
      | true => exact iteT ⟨_, rfl, mk_out ((o2 hz hs hu).same (s1.trans s2))⟩
      | false =>
        have q := q hz hs hu
        refine iteF ?_
        have W2 := (W.same s1).same s2
        have hlen := W2.len
        obtain ⟨dx, a, b, c, ws, bs, h1, h2, h3, h4, h5, h6⟩ := W2.ex
        refine ⟨_, rfl, p, CW K, dx, _, _, rfl, h1, cl_Web T, na_moment_rows T, wf_m, a, rfl, ⟨_, .inl (.inl h2)⟩, fun D nD => ?_⟩
        refine lc_pure m.own (walk_tupN (xs := m.own.map V.str) (by rw [List.length_map])) (fun x => if (!decide (x = z)) = true then some x else none) (SV V.str) (fun _ h => h) nD (by omega) (fun H1 s1 => .inl (.inl (s1 _ _ h2))) ?_ ?_
        · rintro i x v H3 H3' ex s3 ⟨rfl, hv⟩ Good Bad kt kf
          rw [List.getElem?_map, ex] at hv
          cases hv
          refine ⟨rfl, _, rfl, _, rfl, rfl, _, rfl, ?_⟩
          have ed : decide (V.str x = V.str z) = decide (x = z) := by simp
          rw [ed]
          cases e : !decide (x = z) with
          | true => exact iteT ⟨_, rfl, kt _ _ _ (by rw [if_pos e]) (Same.refl _) rfl⟩
          | false => exact iteF (kf (by rw [if_neg (by rw [e]; simp)]) _ (Same.refl _))
        · intro H3 acc s3 d3 p3
          have ea := paired_enc p3
          rw [fm_filter] at ea
          subst ea
          have h1' := s3 _ _ h1
          refine ⟨_, rfl, p, CW K, dx, _, _, rfl, h1', cl_Web T, na_span_rows T, wf_s, b, rfl, ⟨_, .inl (.inl (s3 _ _ h3))⟩, fun L nL => ?_⟩
          refine lc_pure m.wd (walk_tupN (xs := ws) (by rw [h4.len, List.length_map])) (fun x => if (!decide (x.en = z)) = true then some x else none) (SR Wd.row) sr_k nL (by omega) (fun H1 s1 => .inl (.inl (s1 _ _ (s3 _ _ h3)))) ?_ ?_
          · rintro i x v H4 H4' ex s4 ⟨rfl, hv⟩ Good Bad kt kf
            obtain ⟨t, rfl, ht⟩ := rows_at h4 hv ex
            have ht' := s4 _ _ (s3 _ _ ht)
            refine ⟨rfl, _, rfl, t, _, 0, _, rfl, rfl, .inl (.inl ht'), atI_nat (j := 0) rfl, _, rfl, rfl, _, rfl, ?_⟩
            have ed : decide (V.str x.en = V.str z) = decide (x.en = z) := by simp
            rw [ed]
            cases e : !decide (x.en = z) with
            | true => exact iteT ⟨_, rfl, kt _ _ _ (by rw [if_pos e]) (Same.refl _) ⟨t, rfl, ht'⟩⟩
            | false => exact iteF (kf (by rw [if_neg (by rw [e]; simp)]) _ (Same.refl _))
          · intro H4 acc s4 d4 p4
            rw [fm_filter] at p4
            have r4 := paired_rows p4
            have sB := s3.trans s4
            have h1' := sB _ _ h1
            refine ⟨_, rfl, p, CW K, dx, _, _, rfl, h1', cl_Web T, na_by T, wf_by, _, rfl, _, rfl, _, rfl, p, CW K, dx, _, _, rfl, h1', cl_Web T, na_tie_rows T, wf_t, ?_⟩
            have l1 : (m.drp z).own.length ≤ m.own.length := List.length_filter_le _ _
            have l2 : (m.drp z).wd.length ≤ m.wd.length := List.length_filter_le _ _
            refine ⟨m.drp z, D, L, c, acc, bs, rfl, s4 _ _ d3, d4, r4, sB _ _ h5, h6.keep (Kt.of sB), ⟨by omega, by omega, hlen.2.2⟩, W.last, fun y H5 s5 ny W5 => ?_⟩
            have sC := (s1.trans s2).trans sB
            exact q y H5 (sC.trans s5) (sC.free ny) W5
def sp_wtX (K : PySem.W.Frag) : Sp := fun vs H Q E => ∃ (p : Addr) (m : Md) (v : V), vs = [.ref p, v] ∧ WebAt (CW K) H p m ∧ (plK v).isSome = true ∧ (whB 0 ((m.bd.length : Int) - 1) v = false → Out H E (He.ga K "NoTie") "NoTie" "at" v) ∧
  (∀ i : Nat, v = .int i → i < m.bd.length → ∀ (q : Addr) (H' : Hp), Same H H' → H q = none → WebAt (CW K) H' q (m.unt i) → Q (.ref q) H')
theorem met_Web_without (T : Tp K mg) : Met P w K mg base 6 (CW K) "without" (fun vs H Q _ => sp_woX K vs H Q E0) := (metx_Web_without T).calm
end
end Tw

set_option maxHeartbeats 4000000
namespace Tw
open PySem PySem.Spec PyProof.Rows L2
/-! web.py: webs compared; another last tick, good or bad -/
/-- a value of a web's rows -/
def rowV : V → Bool
  | .non => true
  | .int _ => true
  | .str z => PyData.canLay0 (.str z)
  | _ => false
theorem rowV_ok : ∀ {v : V}, rowV v = true → okV v = true
  | .non, _ => rfl
  | .int _, _ => rfl
  | .str _, h => h
theorem all_ok : ∀ {r : List V}, r.all rowV = true → r.all okV = true
  | [], _ => rfl
  | v :: r, h => by
    rw [List.all_cons, Bool.and_eq_true] at h ⊢
    exact ⟨rowV_ok h.1, all_ok h.2⟩
theorem eqv_rowV : ∀ {v u : V}, rowV v = true → rowV u = true → (PyData.eqv (pd v) (pd u) = true ↔ v = u)
  | .non, .non, _, _ => ⟨fun _ => rfl, fun _ => rfl⟩
  | .non, .int _, _, _ => ⟨(fun h => nomatch h), (fun h => nomatch h)⟩
  | .non, .str _, _, _ => ⟨(fun h => nomatch h), (fun h => nomatch h)⟩
  | .int _, .non, _, _ => ⟨(fun h => nomatch h), (fun h => nomatch h)⟩
  | .int i, .int j, _, _ => ⟨fun h => congrArg V.int (eq_of_beq h), fun h => beq_iff_eq.2 (V.int.inj h)⟩
  | .int _, .str _, _, _ => ⟨(fun h => nomatch h), (fun h => nomatch h)⟩
  | .str _, .non, _, _ => ⟨(fun h => nomatch h), (fun h => nomatch h)⟩
  | .str _, .int _, _, _ => ⟨(fun h => nomatch h), (fun h => nomatch h)⟩
  | .str i, .str j, _, _ => ⟨fun h => congrArg V.str (eq_of_beq h), fun h => beq_iff_eq.2 (V.str.inj h)⟩
theorem eqv_rowVs : ∀ {r q : List V}, r.all rowV = true → q.all rowV = true → (PyData.eqvAll (r.map pd) (q.map pd) = true ↔ r = q)
  | [], [], _, _ => ⟨fun _ => rfl, fun _ => rfl⟩
  | [], _ :: _, _, _ => ⟨(fun h => nomatch h), (fun h => nomatch h)⟩
  | _ :: _, [], _, _ => ⟨(fun h => nomatch h), (fun h => nomatch h)⟩
  | v :: r, u :: q, h, g => by
    rw [List.all_cons, Bool.and_eq_true] at h g
    show ((PyData.eqv (pd v) (pd u) && PyData.eqvAll (r.map pd) (q.map pd)) = true) ↔ _
    rw [Bool.and_eq_true, eqv_rowV h.1 g.1, eqv_rowVs h.2 g.2, List.cons.injEq]
theorem eqv_rowRs : ∀ {r q : List (List V)}, (∀ x ∈ r, x.all rowV = true) → (∀ x ∈ q, x.all rowV = true) → (PyData.eqvAll (r.map pdR) (q.map pdR) = true ↔ r = q)
  | [], [], _, _ => ⟨fun _ => rfl, fun _ => rfl⟩
  | [], _ :: _, _, _ => ⟨(fun h => nomatch h), (fun h => nomatch h)⟩
  | _ :: _, [], _, _ => ⟨(fun h => nomatch h), (fun h => nomatch h)⟩
  | v :: r, u :: q, h, g => by
    show ((PyData.eqvAll (v.map pd) (u.map pd) && PyData.eqvAll (r.map pdR) (q.map pdR)) = true) ↔ _
    rw [Bool.and_eq_true, eqv_rowVs (h v List.mem_cons_self) (g u List.mem_cons_self), eqv_rowRs (fun x hx => h x (List.mem_cons_of_mem _ hx)) (fun x hx => g x (List.mem_cons_of_mem _ hx)), List.cons.injEq]
theorem shaped_tup {rs : List (List V)} (h : ∀ r ∈ rs, r.all okV = true) : SeqAt.shaped (.tuple (rs.map pdR)) = true := by
  unfold SeqAt.shaped
  rw [Bool.and_eq_true]
  refine ⟨can_rows h, decide_eq_true ?_⟩
  show PyData.depthAll (rs.map pdR) + 1 ≤ 64
  have := depth_rows rs
  omega
theorem shaped_tup1 {r : List V} (h : r.all okV = true) : SeqAt.shaped (.tuple (r.map pd)) = true := by
  unfold SeqAt.shaped
  rw [Bool.and_eq_true]
  refine ⟨can_all h, decide_eq_true ?_⟩
  show PyData.depthAll (r.map pd) + 1 ≤ 64
  rw [depth_all]
  decide
/-- a web whose names can be laid -/
structure Laid (m : Md) : Prop where
  own : (m.own.map V.str).all rowV = true
  wd : ∀ r ∈ m.wd.map Wd.row, r.all rowV = true
  bd : ∀ r ∈ m.bd.map Bd.row, r.all rowV = true
theorem oV_inj {a b : Option Int} (h : oV a = oV b) : a = b := by
  cases a <;> cases b
  · rfl
  · cases h
  · cases h
  · cases h
    rfl
theorem wrow_inj {x y : Wd} (h : Wd.row x = Wd.row y) : x = y := by
  cases x; cases y
  unfold Wd.row at h
  simp only [List.cons.injEq, V.str.injEq, V.int.injEq, and_true] at h
  obtain ⟨rfl, rfl, rfl, rfl, h⟩ := h
  cases oV_inj h
  rfl
theorem brow_inj {x y : Bd} (h : Bd.row x = Bd.row y) : x = y := by
  cases x; cases y
  unfold Bd.row at h
  simp only [List.cons.injEq, V.str.injEq, and_true] at h
  obtain ⟨rfl, rfl, h1, h2⟩ := h
  cases oV_inj h1
  cases oV_inj h2
  rfl
theorem map_inj2 {α β : Type} {f : α → β} (hf : ∀ x y, f x = f y → x = y) : ∀ {l q : List α}, l.map f = q.map f → l = q
  | [], [], _ => rfl
  | [], _ :: _, h => nomatch h
  | _ :: _, [], h => nomatch h
  | a :: l, b :: q, h => by
    rw [List.map_cons, List.map_cons, List.cons.injEq] at h
    rw [hf _ _ h.1, map_inj2 hf h.2]
theorem md_eq {m n : Md} : m = n ↔ m.last = n.last ∧ m.own.map V.str = n.own.map V.str ∧ m.wd.map Wd.row = n.wd.map Wd.row ∧ m.bd.map Bd.row = n.bd.map Bd.row := by
  constructor
  · rintro rfl
    exact ⟨rfl, rfl, rfl, rfl⟩
  · rintro ⟨h1, h2, h3, h4⟩
    cases m; cases n
    dsimp only at h1 h2 h3 h4
    rw [h1, map_inj2 (fun _ _ e => V.str.inj e) h2, map_inj2 (fun _ _ => wrow_inj) h3, map_inj2 (fun _ _ => brow_inj) h4]
theorem eq_tup1 {K : PySem.W.Frag} {H : Hp} {a b : Addr} {r q : List V} {Q : VK} (ha : H a = some (.tup r)) (hb : H b = some (.tup q)) (hr : r.all rowV = true) (hq : q.all rowV = true) (yes : r = q → Q (.bl true) H) (no : r ≠ q → Q (.bl false) H) : rEqD K (.ref a) (.ref b) H Q := by
  refine ⟨.tuple (r.map pd), .tuple (q.map pd), .tup (.inl (.inl ha)) (dp_all (all_ok hr)), .tup (.inl (.inl hb)) (dp_all (all_ok hq)), shaped_tup1 (all_ok hr), shaped_tup1 (all_ok hq), ?_⟩
  have e := eqv_rowVs hr hq
  show Q (.bl (PyData.eqvAll (r.map pd) (q.map pd))) H
  cases hc : PyData.eqvAll (r.map pd) (q.map pd) with
  | true => exact yes (e.1 hc)
  | false => exact no fun z => by rw [e.2 z] at hc; cases hc
theorem eq_tupR {K : PySem.W.Frag} {H : Hp} {a b : Addr} {xs ys : List V} {r q : List (List V)} {Q : VK} (ha : H a = some (.tup xs)) (hb : H b = some (.tup ys)) (ra : Rows H xs r) (rb : Rows H ys q) (hr : ∀ x ∈ r, x.all rowV = true) (hq : ∀ x ∈ q, x.all rowV = true) (yes : r = q → Q (.bl true) H) (no : r ≠ q → Q (.bl false) H) : rEqD K (.ref a) (.ref b) H Q := by
  have h1 : ∀ x ∈ r, x.all okV = true := fun x hx => all_ok (hr x hx)
  have h2 : ∀ x ∈ q, x.all okV = true := fun x hx => all_ok (hq x hx)
  refine ⟨.tuple (r.map pdR), .tuple (q.map pdR), .tup (.inl (.inl ha)) (dp_rows ra h1), .tup (.inl (.inl hb)) (dp_rows rb h2), shaped_tup h1, shaped_tup h2, ?_⟩
  have e := eqv_rowRs hr hq
  show Q (.bl (PyData.eqvAll (r.map pdR) (q.map pdR))) H
  cases hc : PyData.eqvAll (r.map pdR) (q.map pdR) with
  | true => exact yes (e.1 hc)
  | false => exact no fun z => by rw [e.2 z] at hc; cases hc
section
variable {P : Program} {w : World} {K : PySem.W.Frag} {mg : Str → Option Value} {base : Heap}
/-! ### == -/
def sp_weq (K : PySem.W.Frag) : Sp := fun vs H Q _ => ∃ (p q : Addr) (m n : Md), vs = [.ref p, .ref q] ∧ WebAt (CW K) H p m ∧ WebAt (CW K) H q n ∧ Laid m ∧ Laid n ∧ (m = n → Q (.bl true) H) ∧ (m ≠ n → Q (.bl false) H)
theorem met_Web_UeqU (T : Tp K mg) : Met P w K mg base 2 (CW K) "__eq__" (sp_weq K) := by
  obtain ⟨fd, F⟩ := f_Web_UeqU T
  refine met_of F (cl_Web T) (me_Web_UeqU T) (b_Web_UeqU F) sc_Web_UeqU (fun vs H Q E h => ?_) (fun cdv A outer s H vs Q E hr h => ?_)
  · obtain ⟨p, q, m, n, rfl, _⟩ := h
    rfl
  · obtain ⟨p, q, m, n, rfl, W, V', lm, ln, yes, no⟩ := h
    have hu64 := hr.units
    obtain ⟨dx, a, b, c, ws, bs, h1, h2, h3, h4, h5, h6⟩ := W.ex
    obtain ⟨dy, a', b', c', ws', bs', g1, g2, g3, g4, g5, g6⟩ := V'.ex
    rw [md_eq] at yes
    rw [Ne, md_eq] at no
    refine ⟨_, (pss_one (ps_ret (pe_and (pe_callB call_isi (by rfl) (z_isinstance T) bb_isinstance (pa_cons (pv 1) (pa_cons (pe_glob (v := .ref (He.ga K "Web")) (by rfl) (g_Web T) rfl) pa_nil))) (pe_and (pe_cmpR op_eq (pe_fld (pv 0) rfl) (pe_fld (pv 1) rfl) (nomark _)) (pe_and (pe_cmpR (op_eqD hu64) (pe_fld (pv 0) rfl) (pe_fld (pv 1) rfl) (nomark _)) (pe_and (pe_cmpR (op_eqD hu64) (pe_fld (pv 0) rfl) (pe_fld (pv 1) rfl) (nomark _)) (pe_one (pe_cmpR (op_eqD hu64) (pe_fld (pv 0) rfl) (pe_fld (pv 1) rfl) (nomark _))))))))), ?_⟩
    refine ⟨_, rfl, .ref q, .ref (He.ga K "Web"), .ref (He.ga K "Web"), .ref (He.ga K "Web"), true, rfl, .own _, .base (.ins g1 (cl_Web T) (ti0_Web T) (ti1_Web T) (ti2_Web T) (ti3_Web T)), ?_, ?_⟩
    · unfold PySem.W.kitOne
      rw [if_pos (by simp)]
    refine ⟨_, rfl, iteT ?_⟩
    refine ⟨_, rfl, p, CW K, dx, _, _, rfl, h1, cl_Web T, na_by T, wf_by, _, rfl, q, CW K, dy, _, _, rfl, g1, cl_Web T, na_by T, wf_by, rfl, ?_⟩
    by_cases e0 : m.last = n.last
    · rw [decide_eq_true (congrArg V.int e0)]
      refine ⟨_, rfl, iteT ?_⟩
      refine ⟨_, rfl, p, CW K, dx, _, _, rfl, h1, cl_Web T, na_moment_rows T, wf_m, _, rfl, q, CW K, dy, _, _, rfl, g1, cl_Web T, na_moment_rows T, wf_m, eq_tup1 h2 g2 lm.own ln.own (fun e1 => ⟨_, rfl, iteT ?_⟩) (fun n => ⟨_, rfl, iteF (no fun h => n h.2.1)⟩)⟩
      refine ⟨_, rfl, p, CW K, dx, _, _, rfl, h1, cl_Web T, na_span_rows T, wf_s, _, rfl, q, CW K, dy, _, _, rfl, g1, cl_Web T, na_span_rows T, wf_s, eq_tupR h3 g3 h4 g4 lm.wd ln.wd (fun e2 => ⟨_, rfl, iteT ?_⟩) (fun n => ⟨_, rfl, iteF (no fun h => n h.2.2.1)⟩)⟩
      exact ⟨_, rfl, p, CW K, dx, _, _, rfl, h1, cl_Web T, na_tie_rows T, wf_t, _, rfl, q, CW K, dy, _, _, rfl, g1, cl_Web T, na_tie_rows T, wf_t, eq_tupR h5 g5 h6 g6 lm.bd ln.bd (fun e3 => yes ⟨e0, e1, e2, e3⟩) (fun n => no fun h => n h.2.2.2)⟩
    · rw [decide_eq_false (fun e => e0 (V.int.inj e))]
      exact ⟨_, rfl, iteF (no fun h => e0 h.1)⟩
/-- a web is no list and no text -/
def sp_weqN (K : PySem.W.Frag) : Sp := fun vs H Q _ => ∃ (p : Addr) (m : Md) (v : V), vs = [.ref p, v] ∧ WebAt (CW K) H p m ∧ ((∃ z, v = .str z) ∨ ∃ l xs, v = .ref l ∧ H l = some (.lst xs)) ∧ Q (.bl false) H
theorem met_Web_UeqU_no (T : Tp K mg) : Met P w K mg base 2 (CW K) "__eq__" (sp_weqN K) := by
  obtain ⟨fd, F⟩ := f_Web_UeqU T
  refine met_of F (cl_Web T) (me_Web_UeqU T) (b_Web_UeqU F) sc_Web_UeqU (fun vs H Q E h => ?_) (fun cdv A outer s H vs Q E hr h => ?_)
  · obtain ⟨p, m, v, rfl, _⟩ := h
    rfl
  · obtain ⟨p, m, v, rfl, W, hv, no⟩ := h
    have hu64 := hr.units
    refine ⟨_, (pss_one (ps_ret (pe_and (pe_callB call_isi (by rfl) (z_isinstance T) bb_isinstance (pa_cons (pv 1) (pa_cons (pe_glob (v := .ref (He.ga K "Web")) (by rfl) (g_Web T) rfl) pa_nil))) (pe_and (pe_cmpR op_eq (pe_fld (pv 0) rfl) (pe_fld (pv 1) rfl) (nomark _)) (pe_and (pe_cmpR (op_eqD hu64) (pe_fld (pv 0) rfl) (pe_fld (pv 1) rfl) (nomark _)) (pe_and (pe_cmpR (op_eqD hu64) (pe_fld (pv 0) rfl) (pe_fld (pv 1) rfl) (nomark _)) (pe_one (pe_cmpR (op_eqD hu64) (pe_fld (pv 0) rfl) (pe_fld (pv 1) rfl) (nomark _))))))))), ?_⟩
    rcases hv with ⟨z, rfl⟩ | ⟨l, xs, rfl, hl⟩
    · exact ⟨_, rfl, .str z, .ref (He.ga K "Web"), .type "str", .ref (He.ga K "Web"), false, rfl, .own _, .base (.str z), kz_Web T, _, rfl, iteF no⟩
    · exact ⟨_, rfl, .ref l, .ref (He.ga K "Web"), .type "list", .ref (He.ga K "Web"), false, rfl, .own _, .base (.lst hl), kl_Web T, _, rfl, iteF no⟩
/-! ### another last tick -/
def Md.wby (m : Md) (l : Int) : Md := { m with last := l }
def sp_wby (K : PySem.W.Frag) : Sp := fun vs H Q _ => ∃ (p : Addr) (m : Md) (l : Int), vs = [.ref p, .int l] ∧ WebAt (CW K) H p m ∧ 1 ≤ l ∧ l ≤ 1000 ∧ ∀ (q : Addr) (H' : Hp), Same H H' → H q = none → WebAt (CW K) H' q (m.wby l) → Q (.ref q) H'
theorem met_Web_with_by (T : Tp K mg) : Met P w K mg base 6 (CW K) "with_by" (sp_wby K) := by
  obtain ⟨fd, F⟩ := f_Web_with_by T
  refine met_of F (cl_Web T) (me_Web_with_by T) (b_Web_with_by F) sc_Web_with_by (fun vs H Q E h => ?_) (fun cdv A outer s H vs Q E hr h => ?_)
  · obtain ⟨p, m, l, rfl, _⟩ := h
    rfl
  · obtain ⟨p, m, l, rfl, W, l1, l2, q⟩ := h
    obtain ⟨dx, a, b, c, ws, bs, h1, h2, h3, h4, h5, h6⟩ := W.ex
    refine ⟨_, (pss_one (ps_ret (C8.pe_c (cal_woven T) hr (by decide) rfl (pa_cons (pv 1) (pa_cons (pe_fld (pv 0) rfl) (pa_cons (pe_fld (pv 0) rfl) (pa_cons (pe_fld (pv 0) rfl) pa_nil))))))), ?_⟩
    refine ⟨_, rfl, _, rfl, p, CW K, dx, _, _, rfl, h1, cl_Web T, na_moment_rows T, wf_m, _, rfl, p, CW K, dx, _, _, rfl, h1, cl_Web T, na_span_rows T, wf_s, _, rfl, p, CW K, dx, _, _, rfl, h1, cl_Web T, na_tie_rows T, wf_t, ?_⟩
    exact ⟨m.wby l, a, b, c, ws, bs, rfl, h2, h3, h4, h5, h6, W.len, ⟨l1, l2⟩, q⟩
/-! ### a last tick that is none -/
def sp_iniX (K : PySem.W.Frag) : Sp := fun vs H Q E => ∃ (p : Addr) (v : V), vs = [.ref p, v] ∧ (plK v).isSome = true ∧ whB 1 1000 v = false ∧ Out H E (He.ga K "BadBy") "BadBy" "by" v
theorem fn_iniX (T : Tp K mg) {fd : FuncData} (F : FunD K "__init__" "Web.__init__" (defArgs s_Web_UinitU) (defBody s_Web_UinitU) (defScope s_Web_UinitU) [(V.int 100 : V)] [] (He.ma K (He.ga K "Web") "__init__") fd) :
    FnOk P w K mg base (L2.CX P w) 5 (He.ma K (He.ga K "Web") "__init__") fd ["self", "by"] (sp_iniX K) := by
  refine fnx_of F sc_Web_UinitU (fun vs H Q E h => ?_) (fun cdv A outer s H vs Q E hr h tk => ?_)
  · obtain ⟨p, v, rfl, _⟩ := h
    rfl
  · obtain ⟨p, v, rfl, hpl, wb, o⟩ := h
    refine ⟨_, (pss_cons (ps_if (pt_not (pt_val (C8.pe_c (cal_iswh T) hr (by decide) rfl (pa_cons (pv 1) (pa_cons pe_int (pa_cons (C8.pe_gc (by rfl) (c_MOST_BY T)) pa_nil)))))) (pss_one (ps_raise rfl tk (pmk_b (mkx_BadBy T) hr (by decide) rfl (pa_cons (pv 1) pa_nil)))) pss_nil)
      (pss_cons (ps_fld (pv 0) (pv 1) rfl)
      (pss_cons (ps_fld (pv 0) (pe_tup pa_nil) rfl)
      (pss_cons (ps_fld (pv 0) (pe_tup pa_nil) rfl)
      (pss_one (ps_fld (pv 0) (pe_tup pa_nil) rfl)))))), ?_⟩
    refine ⟨_, rfl, v, 1, 1000, rfl, hpl, _, rfl, ?_⟩
    rw [wb]
    exact iteT ⟨_, rfl, mk_out o⟩
structure MakX (P : Program) (w : World) (K : PySem.W.Frag) (mg : Str → Option Value) (base : Heap) (k : Nat) (x : Str) (C : Addr) (sp : Sp) : Prop where
  ex : ∃ (f : Addr) (fd : FuncData) (ps : List Str), Mk K C f ∧ FnOk P w K mg base (L2.CX P w) k f fd ps sp ∧ mg x = some (.ref C) ∧ ∃ ds, Vals [] ds ∧ Binds K fd ps ds
theorem pe_mkx {X : Cx} {k j : Nat} {C : Addr} {x : Str} {sp : Sp} {p pos : Pos} {e : Expr} {es : List Expr} {t : TA} {W : WX} {E : XK} (c : MakX X.prog X.w X.K X.mg X.base k x C sp) (tk : Takes X W) (hW : ∀ cls d σ H, E cls d H → W cls d σ H) (hr : Room j X.A) (hk : k + 1 ≤ j) (hg : Gl X x) (ha : PA X (e :: es) t) (form : Flat X x e es pos := by exact ⟨by decide, rfl, rfl⟩) :
    PE X (.Call (.Name x p) (e :: es) [] pos) (tMake C sp [] E t) :=
  let ⟨_, _, _, made, F, at_, _, d, b⟩ := c.ex
  pe_make made F (hr.mono hk) hg at_ b d (passes_call tk hW) ha form.dbg form.first form.plain
theorem makx_Web (T : Tp K mg) : MakX P w K mg base 5 "Web" (CW K) (sp_iniX K) := by
  obtain ⟨fd, F⟩ := f_Web_UinitU T
  obtain ⟨ds, hv, hb⟩ := F.binds1 (ps := ["self", "by"]) 2 1 (by simp) rfl fun T kV doc pm an cdv ct us its h1 h2 => match us, its, h1, h2 with
    | [_, _], [_], _, _ => ⟨_, rfl, rfl⟩
  exact ⟨_, fd, ["self", "by"], mk_Web T, fn_iniX T F, g_Web T, ds, hv, hb⟩
def sp_wovX (K : PySem.W.Frag) : Sp := fun vs H Q E => ∃ (v a b c : V), vs = [v, a, b, c] ∧ (plK v).isSome = true ∧ whB 1 1000 v = false ∧ Out H E (He.ga K "BadBy") "BadBy" "by" v
theorem calx_woven (T : Tp K mg) : CalX P w K mg base 7 "woven" (sp_wovX K) := by
  obtain ⟨fd, F⟩ := f_woven T
  refine calx_of F (g_woven T) (b_woven F) sc_woven (fun vs H Q E h => ?_) (fun cdv A outer s H vs Q E hr h tk => ?_)
  · obtain ⟨v, a, b, c, rfl, _⟩ := h
    rfl
  · obtain ⟨v, a, b, c, rfl, hpl, wb, o⟩ := h
    refine ⟨_, (pss_cons (ps_set (i := 4) sc_woven.nd rfl (.inl rfl) (pe_mkx (makx_Web T) tk (fun _ _ _ _ h ↦ h) hr (by decide) rfl (pa_cons (pv 0) pa_nil)))
      (pss_cons (ps_fld (pv 4) (pe_callTy call_tuple_of (by rfl) (z_tuple T) bb_tuple (pa_cons (pv 1) pa_nil)) rfl)
      (pss_cons (ps_fld (pv 4) (pe_callTy call_tuple_of (by rfl) (z_tuple T) bb_tuple (pa_cons (pv 2) pa_nil)) rfl)
      (pss_cons (ps_fld (pv 4) (pe_callTy call_tuple_of (by rfl) (z_tuple T) bb_tuple (pa_cons (pv 3) pa_nil)) rfl)
      (pss_one (ps_ret (pv 4))))))), ?_⟩
    exact ⟨_, rfl, fun x dx nx ndx ne => ⟨x, v, rfl, hpl, wb, Out.same o ((same_upd ndx).trans (same_upd (by rw [upd_ne ne.symm]; exact nx)))⟩⟩
def sp_wbyX (K : PySem.W.Frag) : Sp := fun vs H Q E => ∃ (p : Addr) (m : Md) (v : V), vs = [.ref p, v] ∧ WebAt (CW K) H p m ∧ (plK v).isSome = true ∧ whB 1 1000 v = false ∧ Out H E (He.ga K "BadBy") "BadBy" "by" v
theorem metx_Web_with_by (T : Tp K mg) : MetX P w K mg base 8 (CW K) "with_by" (sp_wbyX K) := by
  obtain ⟨fd, F⟩ := f_Web_with_by T
  refine metx_of F (cl_Web T) (me_Web_with_by T) (b_Web_with_by F) sc_Web_with_by (fun vs H Q E h => ?_) (fun cdv A outer s H vs Q E hr h tk => ?_)
  · obtain ⟨p, m, v, rfl, _⟩ := h
    rfl
  · obtain ⟨p, m, v, rfl, W, hpl, wb, o⟩ := h
    obtain ⟨dx, a, b, c, ws, bs, h1, h2, h3, h4, h5, h6⟩ := W.ex
    refine ⟨_, (pss_one (ps_ret (pe_cx (calx_woven T) tk (fun _ _ _ _ h ↦ h) hr (by decide) rfl (pa_cons (pv 1) (pa_cons (pe_fld (pv 0) rfl) (pa_cons (pe_fld (pv 0) rfl) (pa_cons (pe_fld (pv 0) rfl) pa_nil))))))), ?_⟩
    refine ⟨_, rfl, _, rfl, p, CW K, dx, _, _, rfl, h1, cl_Web T, na_moment_rows T, wf_m, _, rfl, p, CW K, dx, _, _, rfl, h1, cl_Web T, na_span_rows T, wf_s, _, rfl, p, CW K, dx, _, _, rfl, h1, cl_Web T, na_tie_rows T, wf_t, ?_⟩
    exact ⟨_, _, _, _, rfl, hpl, wb, o⟩
/-! ### Web(by=..) -/
theorem kb_Web {fd : FuncData} (F : FunD K "__init__" "Web.__init__" (defArgs s_Web_UinitU) (defBody s_Web_UinitU) (defScope s_Web_UinitU) [(V.int 100 : V)] [] (He.ma K (He.ga K "Web") "__init__") fd) :
    ∃ its : List Value, KBn K fd ["self", "by"] 1 [("by" : Str)] (fun us ws => us ++ ws) (fun vs zs => vs ++ zs) :=
  F.kbindsD 1 [("by" : Str)] (fun us _ ws => us ++ ws) (by simp) (fun r1 _ r3 => r1.append r3) fun T kV doc pm an cdv ct us its ws h1 h2 h3 => match us, its, ws, h1, h2, h3 with
    | [_], [_], [_], _, _, _ => ⟨_, rfl, rfl⟩
/-- a class of one value that is made by its name -/
structure MakK (P : Program) (w : World) (K : PySem.W.Frag) (mg : Str → Option Value) (base : Heap) (CX : CXT) (k : Nat) (x kn : Str) (C : Addr) (sp : Sp) : Prop where
  ex : ∃ (f : Addr) (fd : FuncData) (ps : List Str) (g : List Value → List Value → List Value), Mk K C f ∧ FnOk P w K mg base CX k f fd ps sp ∧ mg x = some (.ref C) ∧ KBn K fd ps 1 [kn] g (fun vs zs => vs ++ zs)
theorem makk_Web (T : Tp K mg) : MakK P w K mg base CX0 3 "Web" "by" (CW K) (sp_init K) := by
  obtain ⟨fd, F⟩ := f_Web_UinitU T
  obtain ⟨_, hb⟩ := kb_Web F
  exact ⟨_, fd, _, _, mk_Web T, fn_init T F, g_Web T, hb⟩
theorem makkx_Web (T : Tp K mg) : MakK P w K mg base (L2.CX P w) 5 "Web" "by" (CW K) (sp_iniX K) := by
  obtain ⟨fd, F⟩ := f_Web_UinitU T
  obtain ⟨_, hb⟩ := kb_Web F
  exact ⟨_, fd, _, _, mk_Web T, fn_iniX T F, g_Web T, hb⟩
theorem pe_wk {X : Cx} {j k : Nat} {C : Addr} {sp : Sp} {x kn : Str} {ke : Expr} {te : TE} {p pos kpos : Pos} (c : MakK X.prog X.w X.K X.mg X.base CX0 k x kn C sp) (hr : Room j X.A) (hj : k + 1 ≤ j) (hg : Gl X x) (he : PE X ke te) (hdb : (x == ("__debug__" : Str)) = false := by decide) :
    PE X (.Call (.Name x p) [] [⟨some kn, ke, kpos⟩] pos) (tMakeK C 0 1 sp (fun vs zs => vs ++ zs) E0 tNil (tCons te tNil)) := by
  obtain ⟨_, _, _, _, made, F, at_, hb⟩ := c.ex
  exact pe_makeK0 (ks := [kn]) made F (hr.mono hj) hg at_ hb pass0 (pk_cons he pk_nil) rfl rfl hdb rfl
theorem pe_wkx {X : Cx} {j k : Nat} {C : Addr} {sp : Sp} {x kn : Str} {ke : Expr} {te : TE} {p pos kpos : Pos} {W : WX} {E : XK} (c : MakK X.prog X.w X.K X.mg X.base (L2.CX X.prog X.w) k x kn C sp) (ta : Takes X W) (hW : ∀ cls d σ H, E cls d H → W cls d σ H) (hr : Room j X.A) (hj : k + 1 ≤ j) (hg : Gl X x) (he : PE X ke te) (hdb : (x == ("__debug__" : Str)) = false := by decide) :
    PE X (.Call (.Name x p) [] [⟨some kn, ke, kpos⟩] pos) (tMakeK C 0 1 sp (fun vs zs => vs ++ zs) E tNil (tCons te tNil)) := by
  obtain ⟨_, _, _, _, made, F, at_, hb⟩ := c.ex
  exact pe_makeK0 (ks := [kn]) made F (hr.mono hj) hg at_ hb (passes_call ta hW) (pk_cons he pk_nil) rfl rfl hdb rfl
end
end Tw

set_option maxHeartbeats 4000000
namespace Tw
open PySem PySem.Spec PyProof.Rows L2
/-- the refusals that are met: the class, its word, its field -/
inductive Fld (K : PySem.W.Frag) : Addr → Str → List V → List (Str × V) → Prop
  | cBadBy (v0 : V) : Fld K (He.ga K "BadBy") "BadBy" [v0] [(("by" : Str), v0), (("word" : Str), V.str "BadBy")]
def FieldE (K : PySem.W.Frag) (Q : VK) : XK := fun cls d H => ∃ (C dd : Addr) (u : Str) (ws : List V) (fs : List (Str × V)), Fld K C u ws fs ∧ cls = .ref C ∧ d = some dd ∧ H dd = some (.xd fs) ∧ ∀ t, H t = none → Q (.ref t) (upd H t (.tup (.str u :: ws)))
def TTf (K : PySem.W.Frag) : (XK → Hp → VK → Prop) → Hp → VK → Prop := fun tl H Q => tl (FieldE K Q) H fun _ H' => ∃ v, (some (some V.non) : Option (Option V)) = some (some v) ∧ Q v H'
section
variable {X : Cx}
theorem field_gives (T : Tp X.K X.mg) {g : Addr} {cdg : Value} {q : Str} : LamX.GivesTo X N__law_field "_law_field" (defScope s__law_field) g cdg (defBody s__law_field) "_law_ask" q (TTf X.K) := by
  intro f c' s H Q tl act hc h
  refine ⟨_, pss_cons (ps_set (i := 1) sc__law_field.nd rfl (.inl rfl) pe_non) (pss_cons (ps_tryM (X := (cxOf C8.CX0 X.prog X.w X.K X.mg X.base N__law_field "_law_field" (defScope s__law_field) g cdg X.A X.stack s H C8.E0).nox) (i := 2)
    (tb := fun W D σ H => ∃ Ech : XK, (∀ cls d σ' H', Ech cls d H' → W cls d σ' H') ∧ σ[0]? = some (some (.ref f)) ∧ H c' = some (LamX.CodeO c' q) ∧ tl Ech H (fun _ H' => D.nx σ H')) rfl rfl sc__law_field.nd rfl rfl LamX.takes0 (fun W pn xe tk _ => ?_)
    (.cons (.two ⟨rfl, by decide, .inl (g_BadBy T)⟩ ⟨rfl, by decide, .inl (g_BadDeed T)⟩) (fun a oe cls d pn hz hf => pss_one (ps_set (i := 1) sc__law_field.nd rfl (.inl rfl) (pe_ifExp (pt_val (pe_callB (call_isJ (C := He.ga X.K "BadBy") hz) (by rfl) (z_isinstance T) bb_isinstance (pa_cons (pv 2) (pa_cons (pe_glob (v := .ref (He.ga X.K "BadBy")) (by rfl) (g_BadBy T) rfl) pa_nil)))) (pe_tup (pa_cons (pe_xw hz hf (pv 2)) (pa_cons (pe_xw hz hf (pv 2)) pa_nil))) (pe_tup (pa_cons (pe_xw hz hf (pv 2)) (pa_cons (pe_xw hz hf (pv 2)) pa_nil))))))
      (.cons (.three ⟨rfl, by decide, .inl (g_BadName T)⟩ ⟨rfl, by decide, .inl (g_Taken T)⟩ ⟨rfl, by decide, .inl (g_Used T)⟩) (ts := fun _ _ _ => tNever) (fun a oe cls d pn hz hf => pss_never)
      (.cons (.one ⟨rfl, by decide, .inl (g_Full T)⟩) (ts := fun _ _ _ => tNever) (fun a oe cls d pn hz hf => pss_never)
      (.cons (.one ⟨rfl, by decide, .inl (g_BadLength T)⟩) (ts := fun _ _ _ => tNever) (fun a oe cls d pn hz hf => pss_never)
      (.cons (.one ⟨rfl, by decide, .inl (g_BadLate T)⟩) (ts := fun _ _ _ => tNever) (fun a oe cls d pn hz hf => pss_never)
      (.cons (.one ⟨rfl, by decide, .inl (g_BadTie T)⟩) (ts := fun _ _ _ => tNever) (fun a oe cls d pn hz hf => pss_never)
      (.cons (.three ⟨rfl, by decide, .inl (g_NoMoment T)⟩ ⟨rfl, by decide, .inl (g_NoPoint T)⟩ ⟨rfl, by decide, .inl (g_NoSpan T)⟩) (ts := fun _ _ _ => tNever) (fun a oe cls d pn hz hf => pss_never)
      (.cons (.two ⟨rfl, by decide, .inl (g_NoTie T)⟩ ⟨rfl, by decide, .inl (g_NoDeed T)⟩) (ts := fun _ _ _ => tNever) (fun a oe cls d pn hz hf => pss_never)
      (.cons (.three ⟨rfl, by decide, .inl (g_Done T)⟩ ⟨rfl, by decide, .inl (g_Unbegun T)⟩ ⟨rfl, by decide, .inl (g_Unheard T)⟩) (ts := fun _ _ _ => tNever) (fun a oe cls d pn hz hf => pss_never)
      (.cons (.three ⟨rfl, by decide, .inl (g_TooEarly T)⟩ ⟨rfl, by decide, .inl (g_TooLate T)⟩ ⟨rfl, by decide, .inl (g_BadNews T)⟩) (ts := fun _ _ _ => tNever) (fun a oe cls d pn hz hf => pss_never)
      (.cons (.two ⟨rfl, by decide, .inl (g_BadKeeper T)⟩ ⟨rfl, by decide, .inl (g_Over T)⟩) (ts := fun _ _ _ => tNever) (fun a oe cls d pn hz hf => pss_never)
      (.cons (.two ⟨rfl, by decide, .inl (g_BadPaper T)⟩ ⟨rfl, by decide, .inl (g_BadText T)⟩) (ts := fun _ _ _ => tNever) (fun a oe cls d pn hz hf => pss_never)
      (.cons (.three ⟨rfl, by decide, .inl (g_BadPlan T)⟩ ⟨rfl, by decide, .inl (g_Unsteered T)⟩ ⟨rfl, by decide, .inl (g_NothingBack T)⟩) (ts := fun _ _ _ => tNever) (fun a oe cls d pn hz hf => pss_never)
      .nil)))))))))))))) (pss_one (ps_ret (pv 1)))), ?_⟩
  · refine ⟨fun pins s' σ H' D I h' => ?_⟩
    obtain ⟨Ech, hW, h1, h2, h3⟩ := h'
    exact (pss_one (ps_expr (act W pn xe Ech _ _ tk hW))).run pins s' σ H' D I ⟨h1, h2, h3⟩
  · refine ⟨FieldE X.K Q, fun cls d σ' H' ⟨C, dd, u, ws, fs, hF, ec, ed, hd, hq⟩ hl => ?_, rfl, hc, h⟩
    subst ec ed
    obtain ⟨x0, x1, x2, rfl⟩ : ∃ x0 x1 x2, σ' = [x0, x1, x2] := match σ', hl with
      | [x0, x1, x2], _ => ⟨x0, x1, x2, rfl⟩
    cases hF with
    | cBadBy v0 => exact ⟨_, em_BadBy_0 T, fun _ a na => ⟨_, rfl, rfl, rfl, _, rfl, iteT ⟨_, rfl, rfl, _, dd, _, _, rfl, xf_BadBy T, nf_BadBy_word T, rfl, hd, rfl, _, rfl, rfl, _, dd, _, _, rfl, xf_BadBy T, nf_BadBy_by T, rfl, hd, rfl, (by show 2 ≤ sizeLine; decide), fun t nt => ⟨_, rfl, hq t nt⟩⟩⟩, (fun z => nomatch z)⟩
/-- _law_field(lambda: body) -/
theorem pe_lam (T : Tp X.K X.mg) {c Pt : Addr} {k : Nat} {params : Arguments} {body : Expr} {scope : Scope} {t : XK → TE} {p lpos pos : Pos} (TB : LamX.TabB X.base X.mg c Pt) (hcode : X.env.code = .ref c) (hr : Room (k + 2) X.A) (L : LamX.LamS X.env.scope scope)
    (hbody : ∀ (A : Around) (outer : List Env) (s : Shared) (H : Hp) (E : XK) (f c' : Addr), Room k (A.deeper (LamX.lamEnv X scope s.heap.objs.size f c')) → Takes (LamX.lamCx X A outer s H E scope f c') (fun cls d _ H' => E cls d H') → PE (LamX.lamCx X A outer s H E scope f c') body (t E))
    (hg : Gl X "_law_field" := by rfl) (hdef : defaultsOf params X.env = ([], []) := by rfl) (hbind : ∀ (q : Str) (cl : List (Str × Addr)) (pm cv ctv : Value), bindArgs (PySem.W.kla_fn "<lambda>" q params body scope cl pm cv ctv) ⟨[], []⟩ = pure [] := by intros; rfl) :
    PE X (.Call (.Name "_law_field" p) [.Lambda params body scope lpos] [] pos) (LamX.tLam [(Pt, X.env.qual ++ "<lambda>")] (TTf X.K) t) := by
  obtain ⟨fd, F⟩ := f__law_field T
  have b := b__law_field F
  have kp := F.kp
  obtain ⟨oc, od, dV, kV, doc, pm, an, cdv, ct, osl, rfl, lk, hcd, _, _⟩ := F.ex
  exact LamX.pe_lamcall hg (g__law_field T) kp lk hcd b sc__law_field rfl (.inl rfl) (field_gives T) TB hcode List.mem_cons_self (fun p hp _ => by rw [List.mem_singleton.mp hp]) hr L hdef hbind (fun A outer s H E f c' hr' => hbody A outer s H E f c' hr' (takes_of rfl rfl rfl rfl))
/-- .. beside other tables -/
theorem pe_lamT {Ts : List (Addr × Str)} (T : Tp X.K X.mg) {c Pt : Addr} {k : Nat} {params : Arguments} {body : Expr} {scope : Scope} {t : XK → TE} {p lpos pos : Pos} (TB : LamX.TabB X.base X.mg c Pt) (hmT : (Pt, X.env.qual ++ "<lambda>") ∈ Ts) (hu : ∀ p ∈ Ts, p.1 = Pt → p.2 = X.env.qual ++ "<lambda>") (hcode : X.env.code = .ref c) (hr : Room (k + 2) X.A) (L : LamX.LamS X.env.scope scope)
    (hbody : ∀ (A : Around) (outer : List Env) (s : Shared) (H : Hp) (E : XK) (f c' : Addr), Room k (A.deeper (LamX.lamEnv X scope s.heap.objs.size f c')) → Takes (LamX.lamCx X A outer s H E scope f c') (fun cls d _ H' => E cls d H') → PE (LamX.lamCx X A outer s H E scope f c') body (t E))
    (hg : Gl X "_law_field" := by rfl) (hdef : defaultsOf params X.env = ([], []) := by rfl) (hbind : ∀ (q : Str) (cl : List (Str × Addr)) (pm cv ctv : Value), bindArgs (PySem.W.kla_fn "<lambda>" q params body scope cl pm cv ctv) ⟨[], []⟩ = pure [] := by intros; rfl) :
    PE X (.Call (.Name "_law_field" p) [.Lambda params body scope lpos] [] pos) (LamX.tLam Ts (TTf X.K) t) := by
  obtain ⟨fd, F⟩ := f__law_field T
  have b := b__law_field F
  have kp := F.kp
  obtain ⟨oc, od, dV, kV, doc, pm, an, cdv, ct, osl, rfl, lk, hcd, _, _⟩ := F.ex
  exact LamX.pe_lamcall hg (g__law_field T) kp lk hcd b sc__law_field rfl (.inl rfl) (field_gives T) TB hcode hmT hu hr L hdef hbind (fun A outer s H E f c' hr' => hbody A outer s H E f c' hr' (takes_of rfl rfl rfl rfl))
/-- _law_field(v), v a name that keeps a lambda -/
theorem pe_lamv (T : Tp X.K X.mg) {f c' : Addr} {i k : Nat} {v : Str} {params : Arguments} {body : Expr} {scope : Scope} {t : XK → TE} {p p2 pos : Pos} (kp : KeptL X params body scope f c') (hN : X.N[i]? = some v) (hv : Vis X.env.scope v) (hr : Room (k + 2) X.A) (L : LamX.LamS X.env.scope scope)
    (hbody : ∀ (A : Around) (outer : List Env) (s : Shared) (H : Hp) (E : XK), Room k (A.deeper (LamX.lamEnv X scope s.heap.objs.size f c')) → Takes (LamX.lamCx X A outer s H E scope f c') (fun cls d _ H' => E cls d H') → PE (LamX.lamCx X A outer s H E scope f c') body (t E))
    (hg : Gl X "_law_field" := by rfl) (hbind : ∀ (q : Str) (cl : List (Str × Addr)) (pm cv ctv : Value), bindArgs (PySem.W.kla_fn "<lambda>" q params body scope cl pm cv ctv) ⟨[], []⟩ = pure [] := by intros; rfl)
    (hd2 : (v == ("__debug__" : Str)) = false := by decide) (hcd2 : (v == ("__classdict__" : Str)) = false := by decide) :
    PE X (.Call (.Name "_law_field" p) [.Name v p2] [] pos) (tHand (X.env.qual ++ "<lambda>") f c' i (TTf X.K) t) := by
  obtain ⟨fd, F⟩ := f__law_field T
  have b := b__law_field F
  have kk := F.kp
  obtain ⟨oc, od, dV, kV, doc, pm, an, cdv, ct, osl, rfl, lk, hcd, _, _⟩ := F.ex
  exact pe_hand hg (g__law_field T) kk lk hcd b sc__law_field rfl (.inl rfl) (field_gives T) kp hN hv hr L hbind (fun A outer s H E hr' => hbody A outer s H E hr' (takes_of rfl rfl rfl rfl)) (hd2 := hd2) (hcd2 := hcd2)
end
end Tw

set_option maxHeartbeats 4000000
namespace Tw
open PySem PySem.Spec PyProof.Rows L2
/-! ### the law's flow of numbers -/
structure Flow (H : Hp) (f c : Addr) : Prop where
  ex : ∃ (ns : List Int) (i r st : Int), H f = some (.lst [.ref c, .int i, .int r, .int st]) ∧ H c = some (.lst (ns.map V.int)) ∧ 0 ≤ i ∧ 0 ≤ r ∧ 0 ≤ st ∧ st < 2147483647
theorem Flow.lst {H : Hp} {f c : Addr} (h : Flow H f c) : ∃ xs, H f = some (.lst xs) := let ⟨_, _, _, _, e, _⟩ := h.ex; ⟨_, e⟩
theorem Flow.cells {H : Hp} {f c : Addr} (h : Flow H f c) : ∃ xs, H c = some (.lst xs) := let ⟨_, _, _, _, _, e, _⟩ := h.ex; ⟨_, e⟩
theorem Flow.keep {H H' : Hp} {f c : Addr} (h : Flow H f c) (h1 : ∀ o, H f = some o → H' f = some o) (h2 : ∀ o, H c = some o → H' c = some o) : Flow H' f c := by
  obtain ⟨ns, i, r, st, e1, e2, e3⟩ := h.ex
  exact ⟨ns, i, r, st, h1 _ e1, h2 _ e2, e3⟩
theorem Flow.same {H H' : Hp} {f c : Addr} (h : Flow H f c) (s : Same H H') : Flow H' f c := h.keep (fun _ e => s _ _ e) (fun _ e => s _ _ e)
theorem Flow.upd {H : Hp} {f c p : Addr} {o : HO} (h : Flow H f c) (n1 : f ≠ p) (n2 : c ≠ p) : Flow (upd H p o) f c := h.keep (fun _ e => by rw [upd_ne n1]; exact e) (fun _ e => by rw [upd_ne n2]; exact e)
theorem flow_ne {H : Hp} {f c : Addr} {i r st : Int} {ns : List Int} (h1 : H f = some (.lst [.ref c, .int i, .int r, .int st])) (h2 : H c = some (.lst (ns.map V.int))) : c ≠ f := by
  refine ne_of h2 h1 fun e => ?_
  have e := HO.lst.inj e
  cases ns with
  | nil => cases e
  | cons x l =>
    have e1 := (List.cons.inj e).1
    cases e1
theorem Flow.put {H : Hp} {f c : Addr} {i r st : Int} {ns : List Int} (h1 : H f = some (.lst [.ref c, .int i, .int r, .int st])) (h2 : H c = some (.lst (ns.map V.int))) {i' r' st' : Int} (a : 0 ≤ i') (b : 0 ≤ r') (d : 0 ≤ st') (e : st' < 2147483647) :
    Flow (L2.upd H f (.lst [.ref c, .int i', .int r', .int st'])) f c := ⟨ns, i', r', st', upd_same, by rw [upd_ne (flow_ne h1 h2)]; exact h2, a, b, d, e⟩
theorem cut_ints (ns : List Int) (lo hi : Option Int) : ∃ ms : List Int, cutV (ns.map V.int) lo hi = ms.map V.int := by
  unfold cutV
  refine ⟨(ns.drop (HT.sIx (ns.map V.int).length 0 lo)).take (HT.sIx (ns.map V.int).length (ns.map V.int).length hi - HT.sIx (ns.map V.int).length 0 lo), ?_⟩
  rw [List.map_take, List.map_drop]
theorem fm_lo (x : Int) {n : Int} (h : 0 < n) : 0 ≤ x.fmod n := by
  rw [Int.fmod_eq_emod_of_nonneg _ (Int.le_of_lt h)]
  exact Int.emod_nonneg _ (Int.ne_of_gt h)
theorem fm_hi (x : Int) {n : Int} (h : 0 < n) : x.fmod n < n := by
  rw [Int.fmod_eq_emod_of_nonneg _ (Int.le_of_lt h)]
  exact Int.emod_lt_of_pos _ h
theorem fd_lo {x n : Int} (hx : 0 ≤ x) (h : 0 < n) : 0 ≤ x.fdiv n := by
  rw [Int.fdiv_eq_ediv_of_nonneg _ (Int.le_of_lt h)]
  exact Int.ediv_nonneg hx (Int.le_of_lt h)
theorem abs_lo (x : Int) : (0 : Int) ≤ if x < 0 then -x else x := by
  split <;> omega
section
variable {P : Program} {w : World} {K : PySem.W.Frag} {mg : Str → Option Value} {base : Heap}
def CDivX (_ j : Int) : Prop := j ≠ 0 ∧ j.natAbs.log2 < 9000
theorem op_fdivX {X : Cx} : OpR X (binaryOp .FloorDiv) (rI CDivX fun i j => .int (i.fdiv j)) := opI fun _ _ _ _ _ _ _ hc q => floordiv_int hc.1 q (.inl (PyProof.noPylong_of_log2 hc.2))
theorem big_log {n : Int} (h1 : n < 1606938044258990275541962092341162602522202993782792835301376) (h0 : 0 < n) : n.natAbs.log2 < 9000 := by
  have h : n.natAbs < 2 ^ 200 := by
    have e : (2 : Nat) ^ 200 = 1606938044258990275541962092341162602522202993782792835301376 := by decide +kernel
    rw [e]
    omega
  exact Nat.lt_trans ((Nat.log2_lt (by omega)).mpr h) (by decide)
def sp_flow (K : PySem.W.Frag) : Sp := fun vs H Q _ => ∃ (a : Addr) (ns : List Int), vs = [.ref a] ∧ SqL K H a (ns.map V.int) ∧ ∀ (f c : Addr) (H' : Hp), Same H H' → H f = none → H c = none → Flow H' f c → Q (.ref f) H'
theorem cal__law_flow (T : Tp K mg) : Cal P w K mg base 2 "_law_flow" (sp_flow K) := by
  obtain ⟨fd, F⟩ := f__law_flow T
  refine cal_of F (g__law_flow T) (b__law_flow F) sc__law_flow (fun vs H Q E h => ?_) (fun cdv A outer s H vs Q E hr h => ?_)
  · obtain ⟨a, ns, rfl, _⟩ := h
    rfl
  · obtain ⟨a, ns, rfl, hS, q⟩ := h
    refine ⟨_, (pss_one (ps_ret (pe_lst (pa_cons (pe_callTy call_list_of (by rfl) (z_list T) bb_list (pa_cons (pe_slice sl_list (pv 0) po_none (po_some pe_int)) pa_nil)) (pa_cons pe_int (pa_cons pe_int (pa_cons pe_int pa_nil))))))), ?_⟩
    refine ⟨_, rfl, 63, rfl, a, _, rfl, hS, fun p np => ?_⟩
    obtain ⟨ms, e⟩ := cut_ints ns none (some 63)
    rw [e]
    have s1 := same_upd (o := .lst (ms.map V.int)) np
    refine ⟨p, _, rfl, .inl (.inl (.inl upd_same)), fun l nl => ?_⟩
    have s2 := same_upd (o := .lst (ms.map V.int)) nl
    refine ⟨by show 4 ≤ sizeLine; decide, fun f nf => ?_⟩
    have s3 := same_upd (o := .lst [.ref l, .int 0, .int 0, .int 11]) nf
    have sa := s1.trans s2
    exact q f l _ (sa.trans s3) (sa.free nf) (s1.free nl) ⟨ms, 0, 0, 11, upd_same, s3 _ _ upd_same, by decide, by decide, by decide, by decide⟩
/-! ### _law_draw -/
def sp_draw : Sp := fun vs H Q _ => ∃ (f c : Addr) (n : Int), vs = [.ref f, .int n] ∧ Flow H f c ∧ 0 < n ∧ n < 1606938044258990275541962092341162602522202993782792835301376 ∧ ∀ (v : Int) (H' : Hp), 0 ≤ v → v < n → Sb f H H' → Flow H' f c → Q (.int v) H'
theorem cal__law_draw (T : Tp K mg) : Cal P w K mg base 2 "_law_draw" sp_draw := by
  obtain ⟨fd, F⟩ := f__law_draw T
  refine cal_of F (g__law_draw T) (b__law_draw F) sc__law_draw (fun vs H Q E h => ?_) (fun cdv A outer s H vs Q E hr h => ?_)
  · obtain ⟨f, c, n, rfl, _⟩ := h
    rfl
  · obtain ⟨f, c, n, rfl, FL, n0, n1, q⟩ := h
    obtain ⟨ns, i, r, st, hf, hc, i0, r0, st0, st1⟩ := FL.ex
    have hn : n ≠ 0 := by omega
    have hdiv : CDivX r n := ⟨hn, big_log n1 n0⟩
    have ncf := flow_ne hf hc
    refine ⟨_, (pss_cons (ps_if (pt_cmpR op_gt (pe_ix ix_list (pv 0) pe_int (fun _ _ => rfl)) pe_int (nomark _)) (pss_cons (ps_set (i := 2) sc__law_draw.nd rfl (.inl rfl) (pe_op op_modN (pe_ix ix_list (pv 0) pe_int (fun _ _ => rfl)) (pv 1)))
        (pss_cons (ps_asg (pe_op op_fdivX (pe_ix ix_list (pv 0) pe_int (fun _ _ => rfl)) (pv 1)) (pg_sub (pv 0) pe_int set_list))
        (pss_one (ps_ret (pv 2))))) pss_nil)
      (pss_cons (ps_set (i := 3) sc__law_draw.nd rfl (.inl rfl) pe_int)
      (C8.pss_cut (ps_if (pt_cmpR op_lt (pe_ix ix_list (pv 0) pe_int (fun _ _ => rfl)) (pe_callB call_len_seq (by rfl) (z_len T) bb_len (pa_cons (pe_ix ix_list (pv 0) pe_int (fun _ _ => rfl)) pa_nil)) (nomark _)) (pss_one (ps_set (i := 3) sc__law_draw.nd rfl (.inl rfl) (pe_ix ix_list (pe_ix ix_list (pv 0) pe_int (fun _ _ => rfl)) (pe_ix ix_list (pv 0) pe_int (fun _ _ => rfl)) (fun _ _ => rfl)))) pss_nil)
      (pss_cons (ps_asg (pe_op op_add (pe_ix ix_list (pv 0) pe_int (fun _ _ => rfl)) pe_int) (pg_sub (pv 0) pe_int set_list))
      (pss_cons (ps_if (pt_cmpR op_ge (pe_callB call_abs (by rfl) (z_abs T) bb_abs (pa_cons (pv 3) pa_nil)) (pe_op op_pow pe_int pe_int) (nomark _)) (pss_cons (ps_asg (pe_op op_fdivX (pe_callB call_abs (by rfl) (z_abs T) bb_abs (pa_cons (pv 3) pa_nil)) (pv 1)) (pg_sub (pv 0) pe_int set_list))
        (pss_one (ps_ret (pe_op op_modN (pe_callB call_abs (by rfl) (z_abs T) bb_abs (pa_cons (pv 3) pa_nil)) (pv 1))))) pss_nil)
      (pss_cons (ps_set (i := 4) sc__law_draw.nd rfl (.inl rfl) (pe_op op_add (pe_op op_add (pe_op op_pow (pe_ix ix_list (pv 0) pe_int (fun _ _ => rfl)) pe_int) (pe_op op_mul (pe_ix ix_list (pv 0) pe_int (fun _ _ => rfl)) pe_int)) (pe_op op_mul (pe_ix ix_list (pv 0) pe_int (fun _ _ => rfl)) pe_int)))
      (pss_cons (ps_set (i := 4) sc__law_draw.nd rfl (.inl rfl) (pe_op op_modN (pe_op op_add (pv 4) (pe_op op_mul (pe_op op_modN (pv 3) pe_int) pe_int)) pe_int))
      (pss_cons (ps_asg (pv 4) (pg_sub (pv 0) pe_int set_list))
      (pss_one (ps_ret (pe_op op_modN (pe_op op_add (pe_op op_fdivN (pv 4) pe_int) (pe_op op_mul (pe_op op_modN (pv 4) pe_int) pe_int)) (pv 1)))))))))))), ?_⟩
    refine ⟨_, rfl, f, _, 2, _, rfl, rfl, .inl (.inl hf), atI_nat (j := 2) rfl, _, _, rfl, rfl, _, rfl, ite2 (fun e => ?_) (fun e => ?_)⟩
    · -- numbers are left of a great one
      refine ⟨_, rfl, f, _, 2, _, rfl, rfl, .inl (.inl hf), atI_nat (j := 2) rfl, _, rfl, _, _, rfl, rfl, hn, ?_⟩
      refine ⟨_, rfl, f, _, 2, _, rfl, rfl, .inl (.inl hf), atI_nat (j := 2) rfl, _, rfl, _, _, rfl, rfl, hdiv, _, rfl, f, _, 2, 2, rfl, rfl, hf, rfl, ?_⟩
      exact ⟨_, rfl, q _ _ (fm_lo _ n0) (fm_hi _ n0) Sb.upd (Flow.put hf hc i0 (fd_lo r0 n0) st0 st1)⟩
    · -- the next cell
      refine ⟨fun σ' H' => H' = H ∧ ∃ x : Int, σ' = [some (.ref f), some (.int n), none, some (.int x), none], ?_, ?_⟩
      · refine ⟨_, rfl, f, _, 1, _, rfl, rfl, .inl (.inl hf), atI_nat (j := 1) rfl, _, rfl, f, _, 0, _, rfl, rfl, .inl (.inl hf), atI_nat (j := 0) rfl, c, _, rfl, .inl (.inl (.inl hc)), _, _, rfl, rfl, _, rfl, ite2 (fun e => ?_) (fun e => ?_)⟩
        · have hi : i < ((ns.map V.int).length : Int) := of_decide_eq_true e
          rw [List.length_map] at hi
          have hj : i.toNat < ns.length := by omega
          refine ⟨_, rfl, f, _, 0, _, rfl, rfl, .inl (.inl hf), atI_nat (j := 0) rfl, _, rfl, f, _, 1, _, rfl, rfl, .inl (.inl hf), atI_nat (j := 1) rfl, c, _, i, .int ns[i.toNat], rfl, rfl, .inl (.inl hc), ?_, rfl, ns[i.toNat], rfl⟩
          refine at_of (j := i.toNat) (by omega) ?_
          rw [List.getElem?_map, List.getElem?_eq_getElem hj]
          rfl
        · exact ⟨rfl, 0, rfl⟩
      · rintro σ' H' ⟨rfl, x, rfl⟩
        -- flow[1] = flow[1] + 1
        refine ⟨_, rfl, f, _, 1, _, rfl, rfl, .inl (.inl hf), atI_nat (j := 1) rfl, _, _, rfl, rfl, _, rfl, f, _, 1, 1, rfl, rfl, hf, rfl, ?_⟩
        have hf1 : (upd H' f (.lst [.ref c, .int (i + 1), .int r, .int st])) f = some (.lst [.ref c, .int (i + 1), .int r, .int st]) := upd_same
        have hc1 : (upd H' f (.lst [.ref c, .int (i + 1), .int r, .int st])) c = some (.lst (ns.map V.int)) := by
          rw [upd_ne ncf]
          exact hc
        have sb1 : Sb f H' (upd H' f (.lst [.ref c, .int (i + 1), .int r, .int st])) := Sb.upd
        have a0 := abs_lo x
        refine ⟨_, rfl, _, rfl, 10, 18, rfl, rfl, ⟨by decide, by decide, by decide⟩, _, _, rfl, rfl, _, rfl, ite2 (fun e => ?_) (fun e => ?_)⟩
        · refine ⟨_, rfl, _, rfl, _, rfl, _, _, rfl, rfl, ⟨hn, big_log n1 n0⟩, _, rfl, f, _, 2, 2, rfl, rfl, hf1, rfl, ?_⟩
          exact ⟨_, rfl, _, rfl, _, rfl, _, _, rfl, rfl, hn, q _ _ (fm_lo _ n0) (fm_hi _ n0) (sb1.trans Sb.upd) (Flow.put hf1 hc1 (by omega) (fd_lo a0 n0) st0 st1)⟩
        · refine ⟨_, rfl, f, _, 3, _, rfl, rfl, .inl (.inl hf1), atI_nat (j := 3) rfl, st, 3, rfl, rfl, ⟨by decide, by decide, by omega⟩, ?_⟩
          refine ⟨_, rfl, f, _, 3, _, rfl, rfl, .inl (.inl hf1), atI_nat (j := 3) rfl, st, 31, rfl, rfl, .inr ⟨by decide, by decide⟩, _, _, rfl, rfl, ?_⟩
          refine ⟨_, rfl, f, _, 1, _, rfl, rfl, .inl (.inl hf1), atI_nat (j := 1) rfl, i + 1, 69621, rfl, rfl, .inr ⟨by decide, by decide⟩, _, _, rfl, rfl, ?_⟩
          refine ⟨_, rfl, _, rfl, x, 2147483629, rfl, rfl, (show (2147483629 : Int) ≠ 0 by decide), _, 48271, rfl, rfl, .inr ⟨by decide, by decide⟩, _, _, rfl, rfl, _, 2147483647, rfl, rfl, (show (2147483647 : Int) ≠ 0 by decide), ?_⟩
          have b0 := fm_lo (st ^ (3 : Int).toNat + st * 31 + (i + 1) * 69621 + x.fmod 2147483629 * 48271) (n := 2147483647) (by decide)
          have b1 := fm_hi (st ^ (3 : Int).toNat + st * 31 + (i + 1) * 69621 + x.fmod 2147483629 * 48271) (n := 2147483647) (by decide)
          refine ⟨_, rfl, _, rfl, f, _, 3, 3, rfl, rfl, hf1, rfl, ?_⟩
          refine ⟨_, rfl, _, 8192, rfl, rfl, ⟨by decide, by decide⟩, _, rfl, _, 8191, rfl, rfl, (show (8191 : Int) ≠ 0 by decide), _, 40503, rfl, rfl, .inr ⟨by decide, by decide⟩, _, _, rfl, rfl, _, rfl, _, n, rfl, rfl, hn, ?_⟩
          exact q _ _ (fm_lo _ n0) (fm_hi _ n0) (sb1.trans Sb.upd) (Flow.put hf1 hc1 (by omega) r0 b0 b1)
/-! ### _law_pick -/
def sp_pick : Sp := fun vs H Q _ => ∃ (f c l : Addr) (xs : List V), vs = [.ref f, .ref l] ∧ Flow H f c ∧ H l = some (.lst xs) ∧ l ≠ f ∧ 0 < xs.length ∧ xs.length ≤ 1000 ∧ ∀ (v : V) (H' : Hp), v ∈ xs → Sb f H H' → Flow H' f c → Q v H'
theorem cal__law_pick (T : Tp K mg) : Cal P w K mg base 3 "_law_pick" sp_pick := by
  obtain ⟨fd, F⟩ := f__law_pick T
  refine cal_of F (g__law_pick T) (b__law_pick F) sc__law_pick (fun vs H Q E h => ?_) (fun cdv A outer s H vs Q E hr h => ?_)
  · obtain ⟨f, c, l, xs, rfl, _⟩ := h
    rfl
  · obtain ⟨f, c, l, xs, rfl, FL, hl, nlf, h0, h1, q⟩ := h
    refine ⟨_, (pss_one (ps_ret (pe_ix ix_list (pv 1) (C8.pe_c (cal__law_draw T) hr (by decide) rfl (pa_cons (pv 0) (pa_cons (pe_callB call_len_seq (by rfl) (z_len T) bb_len (pa_cons (pv 1) pa_nil)) pa_nil))) (fun _ _ => rfl)))), ?_⟩
    refine ⟨_, rfl, _, rfl, _, rfl, l, _, rfl, .inl (.inl (.inl hl)), f, c, _, rfl, FL, by omega, by omega, fun v H1 v0 v1 sb F1 => ?_⟩
    have hv : v.toNat < xs.length := by omega
    exact ⟨l, xs, v, xs[v.toNat], rfl, rfl, .inl (.inl (sb _ _ hl nlf)), at_of (j := v.toNat) (by omega) (List.getElem?_eq_getElem hv), q _ H1 (List.getElem_mem hv) sb F1⟩
end
end Tw

set_option maxHeartbeats 4000000
namespace Tw
open PySem PySem.Spec PyProof.Rows L2
/-! ### the law's own picture of a web: a dict -/
abbrev kBy : Key := .inr "by"
abbrev kOwn : Key := .inr "own"
abbrev kWd : Key := .inr "winds"
abbrev kBd : Key := .inr "bonds"
theorem k1 : ¬ kBy = kOwn := by decide +kernel
theorem k2 : ¬ kBy = kWd := by decide +kernel
theorem k3 : ¬ kBy = kBd := by decide +kernel
theorem k4 : ¬ kOwn = kWd := by decide +kernel
theorem k5 : ¬ kOwn = kBd := by decide +kernel
theorem k6 : ¬ kWd = kBd := by decide +kernel
def mk (l : Int) (o w b : Addr) : List (Key × V) := [(kBy, .int l), (kOwn, .ref o), (kWd, .ref w), (kBd, .ref b)]
section
variable {l : Int} {o w b o2 : Addr} {H : Hp} {d : Addr}
theorem mk_by (h : H d = some (.dK (mk l o w b))) : DGet H d (.str "by") (some (.int l)) := .inl ⟨_, kBy, .inl h, rfl, by
  unfold mk
  rw [valV_pos rfl]⟩
theorem mk_own (h : H d = some (.dK (mk l o w b))) : DGet H d (.str "own") (some (.ref o)) := .inl ⟨_, kOwn, .inl h, rfl, by
  unfold mk
  rw [valV_neg k1, valV_pos rfl]⟩
theorem mk_wd (h : H d = some (.dK (mk l o w b))) : DGet H d (.str "winds") (some (.ref w)) := .inl ⟨_, kWd, .inl h, rfl, by
  unfold mk
  rw [valV_neg k2, valV_neg k4, valV_pos rfl]⟩
theorem mk_bd (h : H d = some (.dK (mk l o w b))) : DGet H d (.str "bonds") (some (.ref b)) := .inl ⟨_, kBd, .inl h, rfl, by
  unfold mk
  rw [valV_neg k3, valV_neg k5, valV_neg k6, valV_pos rfl]⟩
theorem mk_putOwn : putK (mk l o w b) kOwn (.ref o2) = mk l o2 w b := by
  have n4 : ¬ kWd = kOwn := fun e => k4 e.symm
  have n5 : ¬ kBd = kOwn := fun e => k5 e.symm
  unfold putK mk
  rw [if_pos (by rw [List.any_cons, List.any_cons, decide_eq_true (rfl : kOwn = kOwn)]; simp)]
  simp only [List.map_cons, List.map_nil, if_neg k1, if_neg n4, if_neg n5, if_true]
end
theorem mk_merge (l : Int) (o w b : Addr) : mergeK [] [(kBy, .int l), (kOwn, .ref o), (kWd, .ref w), (kBd, .ref b)] = mk l o w b := by
  show putK (putK (putK (putK [] kBy (.int l)) kOwn (.ref o)) kWd (.ref w)) kBd (.ref b) = mk l o w b
  rw [putK_new (kvs := []) _ valV_nil, List.nil_append]
  rw [putK_new (kvs := [(kBy, V.int l)]) _ (by rw [valV_neg k1]; rfl), List.singleton_append]
  rw [putK_new (kvs := [(kBy, V.int l), (kOwn, V.ref o)]) _ (by rw [valV_neg k2, valV_neg k4]; rfl), List.cons_append, List.singleton_append]
  rw [putK_new (kvs := [(kBy, V.int l), (kOwn, V.ref o), (kWd, V.ref w)]) _ (by rw [valV_neg k3, valV_neg k5, valV_neg k6]; rfl)]
  rfl
/-- the picture m stands at d -/
structure MdAt (H : Hp) (d : Addr) (m : Md) : Prop where
  ex : ∃ (o w b : Addr) (ws bs : List V), H d = some (.dK (mk m.last o w b)) ∧ H o = some (.lst (m.own.map V.str)) ∧ H w = some (.lst ws) ∧ Rows H ws (m.wd.map Wd.row) ∧ H b = some (.lst bs) ∧ Rows H bs (m.bd.map Bd.row) ∧ o ≠ w ∧ o ≠ b ∧ w ≠ b
/-- .. with its three lists at o, w, b -/
structure MdX (H : Hp) (d o w b : Addr) (m : Md) : Prop where
  dk : H d = some (.dK (mk m.last o w b))
  own : H o = some (.lst (m.own.map V.str))
  wd : ∃ ws, H w = some (.lst ws) ∧ Rows H ws (m.wd.map Wd.row)
  bd : ∃ bs, H b = some (.lst bs) ∧ Rows H bs (m.bd.map Bd.row)
  now : o ≠ w
  nob : o ≠ b
  nwb : w ≠ b
theorem MdX.at {H : Hp} {d o w b : Addr} {m : Md} (M : MdX H d o w b m) : MdAt H d m := by
  obtain ⟨ws, h1, h2⟩ := M.wd
  obtain ⟨bs, h3, h4⟩ := M.bd
  exact ⟨o, w, b, ws, bs, M.dk, M.own, h1, h2, h3, h4, M.now, M.nob, M.nwb⟩
theorem strs_flow {H : Hp} {f c a : Addr} {l : List Str} (F : Flow H f c) (h : H a = some (.lst (l.map V.str))) : a ≠ f := by
  obtain ⟨ns, i, r, st, h1, _⟩ := F.ex
  refine ne_of h h1 fun e => ?_
  have e := HO.lst.inj e
  cases l with
  | nil => cases e
  | cons x t =>
    have e1 := (List.cons.inj e).1
    cases e1
theorem rows_flow {H : Hp} {f c a : Addr} {xs : List V} {rs : List (List V)} (F : Flow H f c) (h : H a = some (.lst xs)) (R : Rows H xs rs) : a ≠ f := by
  obtain ⟨ns, i, r, st, h1, _⟩ := F.ex
  refine ne_of h h1 fun e => ?_
  have e := HO.lst.inj e
  subst e
  obtain ⟨t, r', e1, _⟩ := R.at (i := 1) (x := .int i) rfl
  cases e1
theorem MdAt.same {H H' : Hp} {d : Addr} {m : Md} (M : MdAt H d m) (s : Same H H') : MdAt H' d m := by
  obtain ⟨o, w, b, ws, bs, h1, h2, h3, h4, h5, h6, h7⟩ := M.ex
  exact ⟨o, w, b, ws, bs, s _ _ h1, s _ _ h2, s _ _ h3, h4.keep (Kt.of s), s _ _ h5, h6.keep (Kt.of s), h7⟩
theorem MdAt.sb {H H' : Hp} {f c d : Addr} {m : Md} (M : MdAt H d m) (F : Flow H f c) (s : Sb f H H') : MdAt H' d m := by
  obtain ⟨o, w, b, ws, bs, h1, h2, h3, h4, h5, h6, h7⟩ := M.ex
  obtain ⟨xs, hf⟩ := F.lst
  have k := s.kt hf
  exact ⟨o, w, b, ws, bs, s _ _ h1 (ne_of h1 hf (by intro z; cases z)), s _ _ h2 (strs_flow F h2), s _ _ h3 (rows_flow F h3 h4), h4.keep k, s _ _ h5 (rows_flow F h5 h6), h6.keep k, h7⟩
theorem MdX.same {H H' : Hp} {d o w b : Addr} {m : Md} (M : MdX H d o w b m) (s : Same H H') : MdX H' d o w b m := by
  obtain ⟨ws, h1, h2⟩ := M.wd
  obtain ⟨bs, h3, h4⟩ := M.bd
  exact ⟨s _ _ M.dk, s _ _ M.own, ⟨ws, s _ _ h1, h2.keep (Kt.of s)⟩, ⟨bs, s _ _ h3, h4.keep (Kt.of s)⟩, M.now, M.nob, M.nwb⟩
theorem MdX.sb {H H' : Hp} {f c d o w b : Addr} {m : Md} (M : MdX H d o w b m) (F : Flow H f c) (s : Sb f H H') : MdX H' d o w b m := by
  obtain ⟨ws, h1, h2⟩ := M.wd
  obtain ⟨bs, h3, h4⟩ := M.bd
  obtain ⟨xs, hf⟩ := F.lst
  have k := s.kt hf
  exact ⟨s _ _ M.dk (ne_of M.dk hf (by intro z; cases z)), s _ _ M.own (strs_flow F M.own), ⟨ws, s _ _ h1 (rows_flow F h1 h2), h2.keep k⟩, ⟨bs, s _ _ h3 (rows_flow F h3 h4), h4.keep k⟩, M.now, M.nob, M.nwb⟩
/-- a span more -/
theorem MdX.addW {H : Hp} {d o w b t : Addr} {m : Md} {x : Wd} {ws : List V} (M : MdX H d o w b m) (e : H w = some (.lst ws)) (R : Rows H ws (m.wd.map Wd.row)) (ht : H t = some (.tup x.row)) : MdX (upd H w (.lst (ws ++ [.ref t]))) d o w b (m.addS x) := by
  obtain ⟨bs, h3, h4⟩ := M.bd
  have k : Kt H (upd H w (.lst (ws ++ [.ref t]))) := Kt.upd fun xs z => by
    rw [e] at z
    cases z
  refine ⟨?_, ?_, ⟨_, upd_same, ?_⟩, ⟨bs, ?_, h4.keep k⟩, M.now, M.nob, M.nwb⟩
  · rw [upd_ne (ne_of M.dk e (by intro z; cases z))]
    exact M.dk
  · rw [upd_ne M.now]
    exact M.own
  · show Rows _ _ ((m.wd ++ [x]).map Wd.row)
    rw [List.map_append]
    exact (R.keep k).snoc (k _ _ ht)
  · rw [upd_ne M.nwb.symm]
    exact h3
/-- a tie more -/
theorem MdX.addB {H : Hp} {d o w b t : Addr} {m : Md} {x : Bd} {bs : List V} (M : MdX H d o w b m) (e : H b = some (.lst bs)) (R : Rows H bs (m.bd.map Bd.row)) (ht : H t = some (.tup x.row)) : MdX (upd H b (.lst (bs ++ [.ref t]))) d o w b (m.addT x) := by
  obtain ⟨ws, h3, h4⟩ := M.wd
  have k : Kt H (upd H b (.lst (bs ++ [.ref t]))) := Kt.upd fun xs z => by
    rw [e] at z
    cases z
  refine ⟨?_, ?_, ⟨ws, ?_, h4.keep k⟩, ⟨_, upd_same, ?_⟩, M.now, M.nob, M.nwb⟩
  · rw [upd_ne (ne_of M.dk e (by intro z; cases z))]
    exact M.dk
  · rw [upd_ne M.nob]
    exact M.own
  · rw [upd_ne M.nwb]
    exact h3
  · show Rows _ _ ((m.bd ++ [x]).map Bd.row)
    rw [List.map_append]
    exact (R.keep k).snoc (k _ _ ht)
/-- the names that are drawn -/
def pool : List Str := ["a", "bb", "c", "zzzzzzzz", "ab", "x", "late", "by", "q", "tie", "ends", "waits", "k", "ba"]
theorem pool_nd : pool.Nodup := by decide +kernel
theorem pool_ok : (pool.all fun z => decide (1 ≤ z.length) && decide (z.length ≤ 8) && (z.cps.toList.all fun c => decide (c ∈ letters.cps.toList)) && !decide (z = "start")) = true := by decide +kernel
theorem pool_nm {z : Str} (h : z ∈ pool) : Nm z ∧ ¬ z = "start" := by
  have e := List.all_eq_true.mp pool_ok z h
  simp only [Bool.and_eq_true, decide_eq_true_eq, List.all_eq_true, Bool.not_eq_true', decide_eq_false_iff_not] at e
  exact ⟨⟨e.1.1.1, e.1.1.2, e.1.2⟩, e.2⟩
theorem pull_perm {α : Type} : ∀ (r : List α) (v : Nat) (h : v < r.length), (r[v] :: r.eraseIdx v).Perm r
  | [], v, h => absurd h (Nat.not_lt_zero _)
  | a :: r, 0, h => List.Perm.refl _
  | a :: r, v + 1, h => by
    have ih := pull_perm r v (Nat.lt_of_succ_lt_succ h)
    exact (List.Perm.swap a (r[v]'(Nat.lt_of_succ_lt_succ h)) (r.eraseIdx v)).trans (ih.cons a)
theorem erase_map {α β : Type} (g : α → β) : ∀ (r : List α) (v : Nat), (r.map g).eraseIdx v = (r.eraseIdx v).map g
  | [], _ => rfl
  | a :: r, 0 => rfl
  | a :: r, v + 1 => congrArg (g a :: ·) (erase_map g r v)
theorem nd_pull {l r : List Str} {v : Nat} (h : v < r.length) (nd : (l ++ r).Nodup) : ((l ++ [r[v]]) ++ r.eraseIdx v).Nodup := by
  have p : (r[v] :: r.eraseIdx v).Perm r := pull_perm r v h
  rw [List.append_assoc, List.singleton_append]
  exact (p.append_left l).nodup_iff.mpr nd
theorem mem_pull {r : List Str} {v : Nat} {z : Str} (h : v < r.length) : z ∈ r[v] :: r.eraseIdx v ↔ z ∈ r := (pull_perm r v h).mem_iff
section
variable {P : Program} {w : World} {K : PySem.W.Frag} {mg : Str → Option Value} {base : Heap}
/-! ### _law_names -/
def sp_names : Sp := fun vs H Q _ => ∃ (f c : Addr) (n : Int), vs = [.ref f, .int n] ∧ Flow H f c ∧ 0 ≤ n ∧ n ≤ 14 ∧ ∀ (q : Addr) (ns : List Str) (H' : Hp), Sb f H H' → Flow H' f c → H q = none → H' q = some (.lst (ns.map V.str)) → ns.length = n.toNat → ns.Nodup → (∀ z ∈ ns, z ∈ pool) → Q (.ref q) H'
theorem cal__law_names (T : Tp K mg) : Cal P w K mg base 3 "_law_names" sp_names := by
  obtain ⟨fd, F⟩ := f__law_names T
  refine cal_of F (g__law_names T) (b__law_names F) sc__law_names (fun vs H Q E h => ?_) (fun cdv A outer s H vs Q E hr h => ?_)
  · obtain ⟨f, c, n, rfl, _⟩ := h
    rfl
  · obtain ⟨f, c, n, rfl, FL, n0, n1, q⟩ := h
    refine ⟨_, (pss_cons (ps_set (i := 2) sc__law_names.nd rfl (.inl rfl) (pe_lst (pa_cons pe_str (pa_cons pe_str (pa_cons pe_str (pa_cons pe_str (pa_cons pe_str (pa_cons pe_str (pa_cons pe_str (pa_cons pe_str (pa_cons pe_str (pa_cons pe_str (pa_cons pe_str (pa_cons pe_str (pa_cons pe_str (pa_cons pe_str pa_nil))))))))))))))))
      (pss_cons (ps_set (i := 3) sc__law_names.nd rfl (.inl rfl) (pe_lst pa_nil))
      (pss_cons (ps_for PassesOwn.never rfl (pi_range1 rfl (z_range T) (pa_cons (pv 1) pa_nil)) (pg_name (i := 4) sc__law_names.nd rfl (.inl rfl))
        (pss_one (ps_expr (pe_bm PySem.F.plainAttrs_list PySem.F.slot_list_append PySem.F.type_list_append mt_append (pv 3) (pa_cons (pe_bm PySem.F.plainAttrs_list PySem.F.slot_list_pop PySem.F.type_list_pop mt_popAt (pv 2) (pa_cons (C8.pe_c (cal__law_draw T) hr (by decide) rfl (pa_cons (pv 0) (pa_cons (pe_callB call_len_seq (by rfl) (z_len T) bb_len (pa_cons (pv 2) pa_nil)) pa_nil))) pa_nil)) pa_nil)))))
      (pss_one (ps_ret (pv 3)))))), ?_⟩
    refine ⟨by show 14 ≤ sizeLine; decide, fun l nl => ?_⟩
    have s1 := same_upd (o := .lst (pool.map V.str)) nl
    refine ⟨Nat.zero_le _, fun k nk => ?_⟩
    have s2 := same_upd (o := .lst []) nk
    have sa := s1.trans s2
    have nkH : H k = none := s1.free nk
    have nlk : l ≠ k := fun z => by
      rw [← z, upd_same] at nk
      cases nk
    obtain ⟨xs, hf⟩ := FL.lst
    have nlf : l ≠ f := (ne_of_none hf nl).symm
    have nkf : k ≠ f := (ne_of_none hf nkH).symm
    obtain ⟨ys, hc⟩ := FL.cells
    have ncl : c ≠ l := ne_of_none hc nl
    have nck : c ≠ k := ne_of_none hc nkH
    refine ⟨_, rfl, n, rfl, by omega, by omega, ?_⟩
    refine for_range (lo := 0) (n := n.toNat) (fun i σ H1 => ∃ (y : Option V) (ns rest : List Str), σ = [some (.ref f), some (.int n), some (.ref l), some (.ref k), y] ∧ Sb f H H1 ∧ Flow H1 f c ∧ H1 l = some (.lst (rest.map V.str)) ∧ H1 k = some (.lst (ns.map V.str)) ∧
      ns.length = i ∧ rest.length + i = 14 ∧ (ns ++ rest).Nodup ∧ ∀ z ∈ ns ++ rest, z ∈ pool) ?_ ?_ ?_
    · exact ⟨none, [], pool, rfl, Sb.of sa, FL.same sa, s2 _ _ upd_same, upd_same, rfl, rfl, pool_nd, fun z h => h⟩
    · rintro i σ H1 hi ⟨y, ns, rest, rfl, sb, F1, hl1, hk1, el, er, nd, hp⟩
      have hlen : (rest.map V.str).length = 14 - i := by
        rw [List.length_map]
        omega
      refine ⟨_, rfl, .inl ⟨rfl, _, .inl (.inl hk1)⟩, _, rfl, .inl ⟨rfl, _, .inl (.inl hl1)⟩, _, rfl, _, rfl, l, _, rfl, .inl (.inl (.inl hl1)), f, c, _, rfl, F1, by omega, by omega, fun v H2 v0 v1 sb2 F2 => ?_⟩
      have hv : v.toNat < rest.length := by
        rw [hlen] at v1
        omega
      have hl2 := sb2 _ _ hl1 nlf
      have hk2 := sb2 _ _ hk1 nkf
      refine ⟨l, _, v, v.toNat, .str rest[v.toNat], rfl, rfl, hl2, by omega, by omega, ?_, ?_, k, _, _, rfl, rfl, (by rw [upd_ne nlk.symm]; exact hk2), ?_, ?_⟩
      · unfold seqIndex?
        rw [if_neg (show ¬ v < 0 by omega), if_pos (by simp only [Bool.and_eq_true, decide_eq_true_eq]; omega)]
      · rw [List.getElem?_map, List.getElem?_eq_getElem hv]
        rfl
      · rw [List.length_map]
        exact small1000 (by omega)
      · refine ⟨_, ns ++ [rest[v.toNat]], rest.eraseIdx v.toNat, rfl, ?_, ?_, ?_, ?_, ?_, ?_, nd_pull hv nd, ?_⟩
        · refine fun b o e nb => ?_
          have e1 := sb2 _ _ (sb _ _ e nb) nb
          rw [upd_ne (ne_of_none e nkH), upd_ne (ne_of_none e nl)]
          exact e1
        · exact (F2.upd nlf.symm ncl).upd nkf.symm nck
        · rw [upd_ne nlk, upd_same, erase_map]
        · rw [upd_same, List.map_append]
          rfl
        · rw [List.length_append, el]
          rfl
        · rw [List.length_eraseIdx_of_lt hv]
          omega
        · intro z hz
          refine hp z ?_
          rw [List.append_assoc, List.singleton_append] at hz
          rcases List.mem_append.mp hz with h | h
          · exact List.mem_append.mpr (.inl h)
          · exact List.mem_append.mpr (.inr ((mem_pull hv).mp h))
    · rintro σ H1 ⟨y, ns, rest, rfl, sb, F1, hl1, hk1, el, er, nd, hp⟩
      exact ⟨_, rfl, q k ns H1 sb F1 nkH hk1 el (List.nodup_append.mp nd).1 fun z hz => hp z (List.mem_append.mpr (.inl hz))⟩
end
end Tw

set_option maxHeartbeats 4000000
namespace Tw
open PySem PySem.Spec PyProof.Rows L2
section
variable {P : Program} {w : World} {K : PySem.W.Frag} {mg : Str → Option Value} {base : Heap}
/-! ### _law_model -/
def sp_model : Sp := fun vs H Q _ => ∃ l : Int, vs = [.int l] ∧ ∀ (d o u b : Addr) (H' : Hp), Same H H' → H d = none → H o = none → H u = none → H b = none → MdX H' d o u b ⟨l, [], [], []⟩ → Q (.ref d) H'
theorem cal__law_model (T : Tp K mg) : Cal P w K mg base 2 "_law_model" sp_model := by
  obtain ⟨fd, F⟩ := f__law_model T
  refine cal_of F (g__law_model T) (b__law_model F) sc__law_model (fun vs H Q E h => ?_) (fun cdv A outer s H vs Q E hr h => ?_)
  · obtain ⟨l, rfl, _⟩ := h
    rfl
  · obtain ⟨l, rfl, q⟩ := h
    refine ⟨_, (pss_one (ps_ret (pe_disp (pps_cons pe_str (pv 0) (pps_cons pe_str (pe_lst pa_nil) (pps_cons pe_str (pe_lst pa_nil) (pps_cons pe_str (pe_lst pa_nil) pps_nil)))) (by rfl) (by rfl) (fun z => by cases z) (by decide)))), ?_⟩
    refine fun d nd => ⟨_, rfl, Nat.zero_le _, fun o no => ⟨Nat.zero_le _, fun u nu => ⟨Nat.zero_le _, fun b nb => ?_⟩⟩⟩
    have s0 := same_upd (o := .dK []) nd
    have s1 := same_upd (o := .lst []) no
    have s2 := same_upd (o := .lst []) nu
    have s3 := same_upd (o := .lst []) nb
    have ed := s3 _ _ (s2 _ _ (s1 _ _ (upd_same (H := H) (a := d) (o := .dK []))))
    have eo := s3 _ _ (s2 _ _ (upd_same (H := upd H d (.dK [])) (a := o) (o := .lst [])))
    have eu := s3 _ _ (upd_same (H := upd (upd H d (.dK [])) o (.lst [])) (a := u) (o := .lst []))
    have eb := upd_same (H := upd (upd (upd H d (.dK [])) o (.lst [])) u (.lst [])) (a := b) (o := .lst [])
    have nod : o ≠ d := (ne_of ed eo (by intro z; cases z)).symm
    have nud : u ≠ d := (ne_of ed eu (by intro z; cases z)).symm
    have nbd : b ≠ d := (ne_of ed eb (by intro z; cases z)).symm
    have nou : o ≠ u := ne_of_none (s1 _ _ upd_same |> fun _ => upd_same) nu
    have nob : o ≠ b := ne_of_none (s2 _ _ upd_same) nb
    have nub : u ≠ b := ne_of_none upd_same nb
    refine ⟨ed, [(kBy, .int l), (kOwn, .ref o), (kWd, .ref u), (kBd, .ref b)], rfl, (by show 4 ≤ 15; decide), ?_⟩
    rw [mk_merge]
    refine q d o u b _ (fun x y e => ?_) nd (s0.free no) ((s0.trans s1).free nu) (((s0.trans s1).trans s2).free nb) ⟨upd_same, by rw [upd_ne nod]; exact eo, ⟨[], by rw [upd_ne nud]; exact eu, .nil⟩, ⟨[], by rw [upd_ne nbd]; exact eb, .nil⟩, nou, nob, nub⟩
    rw [upd_ne (ne_of_none e nd)]
    exact s3 _ _ (s2 _ _ (s1 _ _ (s0 _ _ e)))
/-! ### _law_points -/
def sp_lpoints : Sp := fun vs H Q _ => ∃ (d : Addr) (m : Md), vs = [.ref d] ∧ MdAt H d m ∧ m.own.length ≤ 14 ∧ m.wd.length ≤ 14 ∧ ∀ (q : Addr) (H' : Hp), Same H H' → H q = none → H' q = some (.lst (m.pts.map V.str)) → Q (.ref q) H'
theorem cal__law_points (T : Tp K mg) : Cal P w K mg base 2 "_law_points" sp_lpoints := by
  obtain ⟨fd, F⟩ := f__law_points T
  refine cal_of F (g__law_points T) (b__law_points F) sc__law_points (fun vs H Q E h => ?_) (fun cdv A outer s H vs Q E hr h => ?_)
  · obtain ⟨d, m, rfl, _⟩ := h
    rfl
  · obtain ⟨d, m, rfl, M, l1, l2, q⟩ := h
    have hu := hu_of hr
    obtain ⟨o, u, b, ws, bs, h1, h2, h3, h4, h5, h6, h7⟩ := M.ex
    have hw : ws.length = m.wd.length := by rw [h4.len, List.length_map]
    refine ⟨_, (pss_one (ps_ret (pe_op op_cat (pe_op op_cat (pe_lst (pa_cons pe_str pa_nil)) (pe_dget hu (pv 0) pe_str (fun _ _ => rfl))) (pe_lc (own := [("_law_wind_here", 1)]) (g := gName 1) (tt := tYes) rfl sc__law_points.nd (pi_list (pe_dget hu (pv 0) pe_str (fun _ _ => rfl))) (blkOk_by (N := N__law_points) (sc := defScope s__law_points) (by decide +kernel)) (fun _ _ _ _ _ => (pg_name (i := 1) sc__law_points.nd rfl (.inl rfl))) (fun _ _ _ _ _ => pts_nil) (fun _ _ _ _ _ => (pe_ix (ix_tupK (K := K) rfl) (pv 1) pe_int (fun _ _ => rfl))))))), ?_⟩
    refine ⟨by show 1 ≤ sizeLine; decide, fun l nl => ?_⟩
    have s1 := same_upd (o := .lst [.str "start"]) nl
    refine ⟨_, rfl, d, _, rfl, mk_own (s1 _ _ h1), l, o, _, _, rfl, rfl, upd_same, s1 _ _ h2, ?_, fun r nr => ?_⟩
    · rw [List.length_map]
      exact Nat.le_of_lt (small1000 (by show 1 + _ ≤ 1000; omega))
    · have s2 := same_upd (o := .lst ([.str "start"] ++ m.own.map V.str)) nr
      have sa := s1.trans s2
      refine ⟨_, rfl, d, _, rfl, mk_wd (sa _ _ h1), u, rfl, ⟨_, .inl (.inl (sa _ _ h3))⟩, fun D nD => ?_⟩
      have nDH : H D = none := sa.free nD
      refine lc_list (K := K) (a := u) (xs := ws) (fun i H1 => Same (upd (upd H l (.lst [.str "start"])) r (.lst ([.str "start"] ++ m.own.map V.str))) H1 ∧ H1 D = some (.lst (((m.wd.map (·.en)).take i).map V.str)))
        ⟨same_upd nD, upd_same⟩ (fun i H1 _ ⟨s3, _⟩ => .inl (.inl (s3 _ _ (sa _ _ h3)))) ?_ ?_
      · rintro i x H1 hx ⟨s3, d1⟩
        obtain ⟨t, r', rfl, hr', ht⟩ := h4.at hx
        rw [List.getElem?_map] at hr'
        cases e : m.wd[i]? with
        | none =>
          rw [e] at hr'
          cases hr'
        | some y =>
          rw [e] at hr'
          cases hr'
          have hi : i < m.wd.length := (List.getElem?_eq_some_iff.mp e).1
          refine ⟨rfl, yes_i (iteT ⟨_, rfl, t, _, 0, _, rfl, rfl, .inl (.inl (s3 _ _ (sa _ _ ht))), atI_nat (j := 0) rfl, _, d1, ?_, ?_, ?_⟩)⟩
          · rw [List.length_map, List.length_take]
            exact small1000 (by omega)
          · exact same_put s3 nD
          · rw [upd_same, List.take_add_one, List.getElem?_map, e, List.map_append]
            rfl
      · rintro H1 ⟨s3, d1⟩
        have en : (m.wd.map (·.en)).take ws.length = m.wd.map (·.en) := List.take_of_length_le (by rw [List.length_map]; omega)
        rw [en] at d1
        refine ⟨r, D, _, _, rfl, rfl, s3 _ _ upd_same, d1, ?_, fun x nx => ?_⟩
        · rw [List.length_append, List.length_map, List.length_map, List.length_map]
          exact Nat.le_of_lt (small1000 (by show 1 + _ + _ ≤ 1000; omega))
        · have s4 := same_upd (o := .lst ([.str "start"] ++ m.own.map V.str ++ (m.wd.map (·.en)).map V.str)) nx
          have sb := sa.trans s3
          refine q x _ (sb.trans s4) (sb.free nx) ?_
          rw [upd_same]
          unfold Md.pts
          rw [List.map_cons, List.map_append]
          rfl
/-! ### _law_wind -/
structure WdOk (own : List Str) (x : Wd) : Prop where
  bg : x.bg = "start" ∨ x.bg ∈ own
  lo : 1 ≤ x.lo
  hi : x.lo ≤ x.hi
  top : x.hi ≤ 1000
  la : ∀ i, x.la = some i → 0 ≤ i ∧ i ≤ 1000
def sp_wind : Sp := fun vs H Q _ => ∃ (f c o : Addr) (z : Str) (own : List Str) (far : Int), vs = [.ref f, .str z, .ref o, .int far] ∧ Flow H f c ∧ H o = some (.lst (own.map V.str)) ∧ own.length ≤ 14 ∧ 1 ≤ far ∧ far ≤ 500 ∧
  ∀ (t : Addr) (x : Wd) (H' : Hp), Sb f H H' → Flow H' f c → H t = none → H' t = some (.tup x.row) → x.en = z → WdOk own x → (x.lo ≤ far ∧ x.hi < 2 * far ∧ ∀ i, x.la = some i → i ≤ far) → Q (.ref t) H'
theorem cal__law_wind (T : Tp K mg) : Cal P w K mg base 4 "_law_wind" sp_wind := by
  obtain ⟨fd, F⟩ := f__law_wind T
  refine cal_of F (g__law_wind T) (b__law_wind F) sc__law_wind (fun vs H Q E h => ?_) (fun cdv A outer s H vs Q E hr h => ?_)
  · obtain ⟨f, c, o, z, own, far, rfl, _⟩ := h
    rfl
  · obtain ⟨f, c, o, z, own, far, rfl, FL, ho, hl, f0, f1, q⟩ := h
    refine ⟨_, (pss_cons (ps_set (i := 4) sc__law_wind.nd rfl (.inl rfl) (pe_op op_add pe_int (C8.pe_c (cal__law_draw T) hr (by decide) rfl (pa_cons (pv 0) (pa_cons (pv 3) pa_nil)))))
      (pss_cons (ps_set (i := 5) sc__law_wind.nd rfl (.inl rfl) (pe_op op_add (pv 4) (C8.pe_c (cal__law_draw T) hr (by decide) rfl (pa_cons (pv 0) (pa_cons (pv 3) pa_nil)))))
      (pss_cons (ps_set (i := 6) sc__law_wind.nd rfl (.inl rfl) (pe_ix ix_list (pe_lst (pa_cons pe_int (pa_cons pe_int (pa_cons pe_int (pa_cons (pe_op op_add pe_int (C8.pe_c (cal__law_draw T) hr (by decide) rfl (pa_cons (pv 0) (pa_cons (pv 3) pa_nil)))) (pa_cons pe_non pa_nil)))))) (C8.pe_c (cal__law_draw T) hr (by decide) rfl (pa_cons (pv 0) (pa_cons pe_int pa_nil))) (fun _ _ => rfl)))
      (pss_one (ps_ret (pe_tup (pa_cons (pv 1) (pa_cons (C8.pe_c (cal__law_pick T) hr (by decide) rfl (pa_cons (pv 0) (pa_cons (pe_op op_cat (pe_lst (pa_cons pe_str pa_nil)) (pv 2)) pa_nil))) (pa_cons (pv 4) (pa_cons (pv 5) (pa_cons (pv 6) pa_nil))))))))))), ?_⟩
    have nof := strs_flow FL ho
    obtain ⟨zs, hf⟩ := FL.lst
    obtain ⟨ys, hc⟩ := FL.cells
    refine ⟨_, rfl, _, rfl, f, c, far, rfl, FL, by omega, by omega, fun v1 H1 a1 b1 sb1 F1 => ⟨1, v1, rfl, rfl, ?_⟩⟩
    refine ⟨_, rfl, _, rfl, _, rfl, f, c, far, rfl, F1, by omega, by omega, fun v2 H2 a2 b2 sb2 F2 => ⟨_, _, rfl, rfl, ?_⟩⟩
    refine ⟨_, rfl, _, rfl, f, c, far, rfl, F2, by omega, by omega, fun v3 H3 a3 b3 sb3 F3 => ⟨1, v3, rfl, rfl, (by show 5 ≤ sizeLine; decide), fun l nl => ?_⟩⟩
    obtain ⟨zs3, hf3⟩ := F3.lst
    obtain ⟨ys3, hc3⟩ := F3.cells
    have sl := same_upd (o := .lst [.int 0, .int 0, .int 0, .int (1 + v3), .non]) nl
    have nlf : l ≠ f := (ne_of_none hf3 nl).symm
    refine ⟨_, rfl, f, c, 5, rfl, F3.same sl, by decide, by decide, fun v4 H4 a4 b4 sb4 F4 => ?_⟩
    have sb : Sb f H H4 := ((sb1.trans sb2).trans (sb3.trans (Sb.of sl))).trans sb4
    have hl4 := sb4 _ _ (upd_same (H := H3) (a := l) (o := .lst [.int 0, .int 0, .int 0, .int (1 + v3), .non])) nlf
    obtain ⟨la, ela, hla⟩ : ∃ la : Option Int, ([.int 0, .int 0, .int 0, .int (1 + v3), .non] : List V)[v4.toNat]? = some (oV la) ∧ ∀ i, la = some i → 0 ≤ i ∧ i ≤ far := by
      have hv : v4.toNat < 5 := by omega
      match v4.toNat, hv with
      | 0, _ => exact ⟨some 0, rfl, fun i e => by cases e; omega⟩
      | 1, _ => exact ⟨some 0, rfl, fun i e => by cases e; omega⟩
      | 2, _ => exact ⟨some 0, rfl, fun i e => by cases e; omega⟩
      | 3, _ => exact ⟨some (1 + v3), rfl, fun i e => by cases e; omega⟩
      | 4, _ => exact ⟨none, rfl, fun i e => by cases e⟩
    refine ⟨l, _, v4, oV la, rfl, rfl, .inl (.inl hl4), at_of (j := v4.toNat) (by omega) ela, ?_⟩
    -- the tuple
    have ho4 := sb _ _ ho nof
    refine ⟨_, rfl, _, rfl, (by show 1 ≤ sizeLine; decide), fun p np => ?_⟩
    have sp1 := same_upd (o := .lst [.str "start"]) np
    refine ⟨_, rfl, p, o, _, _, rfl, rfl, upd_same, sp1 _ _ ho4, ?_, fun r nr => ?_⟩
    · rw [List.length_map]
      exact Nat.le_of_lt (small1000 (by show 1 + _ ≤ 1000; omega))
    · have sp2 := same_upd (o := .lst ([.str "start"] ++ own.map V.str)) nr
      have F5 := (F4.same sp1).same sp2
      have er : (upd (upd H4 p (.lst [.str "start"])) r (.lst ([.str "start"] ++ own.map V.str))) r = some (.lst ((("start" : Str) :: own).map V.str)) := upd_same
      refine ⟨f, c, r, _, rfl, F5, er, strs_flow F5 er, by rw [List.length_map]; exact Nat.succ_pos _, by rw [List.length_map]; show own.length + 1 ≤ 1000; omega, fun v H6 hv sb6 F6 => ?_⟩
      obtain ⟨g, hg, rfl⟩ := List.mem_map.mp hv
      refine ⟨_, rfl, _, rfl, _, rfl, (by show 5 ≤ sizeLine; decide), fun t nt => ?_⟩
      have sbA : Sb f H H6 := (sb.trans (Sb.of (sp1.trans sp2))).trans sb6
      have st := same_upd (o := .tup (Wd.row ⟨z, g, 1 + v1, 1 + v1 + v2, la⟩)) nt
      have ntH : H t = none := by
        cases e : H t with
        | none => rfl
        | some y =>
          have ntf : t ≠ f := fun z => by
            obtain ⟨zs6, hf6⟩ := F6.lst
            rw [z, hf6] at nt
            cases nt
          rw [sbA _ _ e ntf] at nt
          cases nt
      exact q t ⟨z, g, 1 + v1, 1 + v1 + v2, la⟩ _ (sbA.trans (Sb.of st)) (F6.same st) ntH upd_same rfl ⟨by
        rcases List.mem_cons.mp hg with e | e
        · exact .inl e
        · exact .inr e, by show 1 ≤ 1 + v1; omega, by show 1 + v1 ≤ 1 + v1 + v2; omega, by show 1 + v1 + v2 ≤ 1000; omega, fun i e => by
          have := hla i e
          omega⟩ ⟨by show 1 + v1 ≤ far; omega, by show 1 + v1 + v2 < 2 * far; omega, fun i e => (hla i e).2⟩
/-! ### _law_bond -/
structure BdOk (pts : List Str) (x : Bd) : Prop where
  one : x.one ∈ pts
  oth : x.oth ∈ pts
  ne : ¬ x.one = x.oth
  b : BOk x.bot x.top
def sp_bond : Sp := fun vs H Q _ => ∃ (f c o : Addr) (pts : List Str) (far : Int), vs = [.ref f, .ref o, .int far] ∧ Flow H f c ∧ H o = some (.lst (pts.map V.str)) ∧ 2 ≤ pts.length ∧ pts.length ≤ 100 ∧ pts.Nodup ∧ 1 ≤ far ∧ far ≤ 250 ∧
  ∀ (t : Addr) (x : Bd) (H' : Hp), Sb f H H' → Flow H' f c → H t = none → H' t = some (.tup x.row) → BdOk pts x → Q (.ref t) H'
theorem bok_lo {a : Int} (h1 : -1000 ≤ a) (h2 : a ≤ 1000) : BOk (some a) none := by
  refine ⟨fun z => (nomatch z.1), fun x e => ?_, fun x e => (nomatch e), fun x y _ e => (nomatch e)⟩
  cases e
  exact ⟨h1, h2⟩
theorem bok_hi {a : Int} (h1 : -1000 ≤ a) (h2 : a ≤ 1000) : BOk none (some a) := by
  refine ⟨fun z => (nomatch z.2), fun x e => (nomatch e), fun x e => ?_, fun x y e _ => (nomatch e)⟩
  cases e
  exact ⟨h1, h2⟩
theorem bok_two {a b : Int} (h1 : -1000 ≤ a) (h2 : a ≤ 1000) (h3 : -1000 ≤ b) (h4 : b ≤ 1000) (h5 : a ≤ b) : BOk (some a) (some b) := by
  refine ⟨fun z => (nomatch z.1), fun x e => ?_, fun x e => ?_, fun x y e e2 => ?_⟩
  · cases e
    exact ⟨h1, h2⟩
  · cases e
    exact ⟨h3, h4⟩
  · cases e
    cases e2
    exact h5
theorem sb_free {f c t : Addr} {H H' : Hp} (sb : Sb f H H') (F : Flow H' f c) (nt : H' t = none) : H t = none := by
  cases e : H t with
  | none => rfl
  | some y =>
    have ntf : t ≠ f := fun z => by
      obtain ⟨zs, hf⟩ := F.lst
      rw [z, hf] at nt
      cases nt
    rw [sb _ _ e ntf] at nt
    cases nt
theorem cal__law_bond (T : Tp K mg) : Cal P w K mg base 4 "_law_bond" sp_bond := by
  obtain ⟨fd, F⟩ := f__law_bond T
  refine cal_of F (g__law_bond T) (b__law_bond F) sc__law_bond (fun vs H Q E h => ?_) (fun cdv A outer s H vs Q E hr h => ?_)
  · obtain ⟨f, c, o, pts, far, rfl, _⟩ := h
    rfl
  · obtain ⟨f, c, o, pts, far, rfl, FL, ho, p2, p3, nd, f0, f1, q⟩ := h
    refine ⟨_, (pss_cons (ps_set (i := 3) sc__law_bond.nd rfl (.inl rfl) (pe_callTy call_list_of (by rfl) (z_list T) bb_list (pa_cons (pv 1) pa_nil)))
      (pss_cons (ps_set (i := 4) sc__law_bond.nd rfl (.inl rfl) (pe_bm PySem.F.plainAttrs_list PySem.F.slot_list_pop PySem.F.type_list_pop mt_popAt (pv 3) (pa_cons (C8.pe_c (cal__law_draw T) hr (by decide) rfl (pa_cons (pv 0) (pa_cons (pe_callB call_len_seq (by rfl) (z_len T) bb_len (pa_cons (pv 3) pa_nil)) pa_nil))) pa_nil)))
      (pss_cons (ps_set (i := 5) sc__law_bond.nd rfl (.inl rfl) (C8.pe_c (cal__law_pick T) hr (by decide) rfl (pa_cons (pv 0) (pa_cons (pv 3) pa_nil))))
      (pss_cons (ps_set (i := 6) sc__law_bond.nd rfl (.inl rfl) (pe_op op_sub (C8.pe_c (cal__law_draw T) hr (by decide) rfl (pa_cons (pv 0) (pa_cons (pe_op op_add (pe_op op_mul pe_int (pv 2)) pe_int) pa_nil))) (pv 2)))
      (pss_cons (ps_set (i := 7) sc__law_bond.nd rfl (.inl rfl) (pe_op op_add (pv 6) (C8.pe_c (cal__law_draw T) hr (by decide) rfl (pa_cons (pv 0) (pa_cons (pe_op op_add (pe_op op_mul pe_int (pv 2)) pe_int) pa_nil)))))
      (pss_cons (ps_set (i := 8) sc__law_bond.nd rfl (.inl rfl) (C8.pe_c (cal__law_draw T) hr (by decide) rfl (pa_cons (pv 0) (pa_cons pe_int pa_nil))))
      (pss_cons (ps_if (pt_cmpR op_eq (pv 8) pe_int (nomark _)) (pss_one (ps_ret (pe_tup (pa_cons (pv 4) (pa_cons (pv 5) (pa_cons (pv 6) (pa_cons pe_non pa_nil))))))) pss_nil)
      (pss_cons (ps_if (pt_cmpR op_eq (pv 8) pe_int (nomark _)) (pss_one (ps_ret (pe_tup (pa_cons (pv 4) (pa_cons (pv 5) (pa_cons pe_non (pa_cons (pv 7) pa_nil))))))) pss_nil)
      (pss_one (ps_ret (pe_tup (pa_cons (pv 4) (pa_cons (pv 5) (pa_cons (pv 6) (pa_cons (pv 7) pa_nil))))))))))))))), ?_⟩
    refine ⟨_, rfl, o, _, rfl, .inl (.inl (.inl ho)), fun l nl => ?_⟩
    have s1 := same_upd (o := .lst (pts.map V.str)) nl
    have F1 := FL.same s1
    obtain ⟨zs, hf⟩ := FL.lst
    obtain ⟨ys, hc⟩ := FL.cells
    have nlf : l ≠ f := (ne_of_none hf nl).symm
    have ncl : c ≠ l := ne_of_none hc nl
    refine ⟨_, rfl, .inl ⟨rfl, _, .inl (.inl upd_same)⟩, _, rfl, _, rfl, l, _, rfl, .inl (.inl (.inl upd_same)), f, c, _, rfl, F1, by rw [List.length_map]; omega, by rw [List.length_map]; omega, fun v H2 v0 v1 sb2 F2 => ?_⟩
    rw [List.length_map] at v1
    have hv : v.toNat < pts.length := by omega
    have hl2 := sb2 _ _ (upd_same (H := H) (a := l) (o := .lst (pts.map V.str))) nlf
    refine ⟨l, _, v, v.toNat, .str pts[v.toNat], rfl, rfl, hl2, by omega, by omega, ?_, ?_, ?_⟩
    · unfold seqIndex?
      rw [if_neg (show ¬ v < 0 by omega), if_pos (by simp only [Bool.and_eq_true, decide_eq_true_eq, List.length_map]; omega)]
    · rw [List.getElem?_map, List.getElem?_eq_getElem hv]
      rfl
    · have F3 : Flow (upd H2 l (.lst ((pts.map V.str).eraseIdx v.toNat))) f c := F2.upd nlf.symm ncl
      have hl3 : (upd H2 l (.lst ((pts.map V.str).eraseIdx v.toNat))) l = some (.lst ((pts.eraseIdx v.toNat).map V.str)) := by rw [upd_same, erase_map]
      have hlen : ((pts.eraseIdx v.toNat).map V.str).length = pts.length - 1 := by rw [List.length_map, List.length_eraseIdx_of_lt hv]
      have sb3 : Sb f H (upd H2 l (.lst ((pts.map V.str).eraseIdx v.toNat))) := fun b x e nb => by
        rw [upd_ne (ne_of_none e nl)]
        exact sb2 _ _ (s1 _ _ e) nb
      refine ⟨_, rfl, _, rfl, f, c, l, _, rfl, F3, hl3, nlf, by omega, by omega, fun y H4 hy sb4 F4 => ?_⟩
      obtain ⟨g, hg, rfl⟩ := List.mem_map.mp hy
      have nd2 : (pts[v.toNat] :: pts.eraseIdx v.toNat).Nodup := (pull_perm pts v.toNat hv).nodup_iff.mpr nd
      have hgp : g ∈ pts := (pull_perm pts v.toNat hv).mem_iff.mp (List.mem_cons_of_mem _ hg)
      have hne : ¬ pts[v.toNat] = g := fun e => (List.nodup_cons.mp nd2).1 (e ▸ hg)
      have sbA := sb3.trans sb4
      refine ⟨_, rfl, _, rfl, 3, far, rfl, rfl, .inl ⟨by decide, by decide⟩, _, 1, rfl, rfl, f, c, _, rfl, F4, by omega, by omega, fun v5 H5 a5 b5 sb5 F5 => ⟨_, rfl, _, _, rfl, rfl, ?_⟩⟩
      refine ⟨_, rfl, _, rfl, _, rfl, 2, far, rfl, rfl, .inl ⟨by decide, by decide⟩, _, 1, rfl, rfl, f, c, _, rfl, F5, by omega, by omega, fun v6 H6 a6 b6 sb6 F6 => ⟨_, _, rfl, rfl, ?_⟩⟩
      refine ⟨_, rfl, f, c, 5, rfl, F6, by decide, by decide, fun v7 H7 a7 b7 sb7 F7 => ?_⟩
      have sbB := ((sbA.trans sb5).trans sb6).trans sb7
      have hp : pts[v.toNat] ∈ pts := List.getElem_mem hv
      have done : ∀ (t : Addr) (bo to : Option Int), BOk bo to → H7 t = none → Q (.ref t) (upd H7 t (.tup [.str pts[v.toNat], .str g, oV bo, oV to])) := fun t bo to hb nt =>
        q t ⟨pts[v.toNat], g, bo, to⟩ _ (sbB.trans (Sb.of (same_upd nt))) (F7.same (same_upd nt)) (sb_free sbB F7 nt) upd_same ⟨hp, hgp, hne, hb⟩
      refine ⟨_, rfl, rfl, _, rfl, ite2 (fun e => ?_) (fun e => ?_)⟩
      · refine ⟨_, rfl, _, rfl, _, rfl, (by show 4 ≤ sizeLine; decide), fun t nt => done t (some (v5 - far)) none (bok_lo (by omega) (by omega)) nt⟩
      · refine ⟨_, rfl, rfl, _, rfl, ite2 (fun e => ?_) (fun e => ?_)⟩
        · refine ⟨_, rfl, _, rfl, _, rfl, (by show 4 ≤ sizeLine; decide), fun t nt => done t none (some (v5 - far + v6)) (bok_hi (by omega) (by omega)) nt⟩
        · refine ⟨_, rfl, _, rfl, _, rfl, _, rfl, (by show 4 ≤ sizeLine; decide), fun t nt => done t (some (v5 - far)) (some (v5 - far + v6)) (bok_two (by omega) (by omega) (by omega) (by omega) (by omega)) nt⟩
end
end Tw

set_option maxHeartbeats 4000000
namespace Tw
open PySem PySem.Spec PyProof.Rows L2
theorem cut_pre (ns : List Str) {a : Int} (h : 0 ≤ a) : cutV (ns.map V.str) none (some a) = (ns.take a.toNat).map V.str := by
  obtain ⟨k, rfl⟩ : ∃ k : Nat, a = k := ⟨a.toNat, by omega⟩
  unfold cutV
  rw [HT.sIx_none, HT.sIx_nat, List.drop_zero, Nat.sub_zero, Int.toNat_natCast, List.map_take]
  by_cases hk : k ≤ (ns.map V.str).length
  · rw [Nat.min_eq_left hk]
  · have past := Nat.le_of_lt (Nat.not_le.mp hk)
    rw [Nat.min_eq_right past, List.take_length]
    exact (List.take_of_length_le past).symm
theorem cut_suf (ns : List Str) {a : Int} (h : 0 ≤ a) : cutV (ns.map V.str) (some a) none = (ns.drop a.toNat).map V.str := by
  obtain ⟨k, rfl⟩ : ∃ k : Nat, a = k := ⟨a.toNat, by omega⟩
  unfold cutV
  rw [HT.sIx_none, HT.sIx_nat, Int.toNat_natCast, List.map_drop]
  by_cases hk : k ≤ (ns.map V.str).length
  · rw [Nat.min_eq_left hk]
    exact List.take_of_length_le (by rw [List.length_drop]; exact Nat.le_refl _)
  · have past := Nat.le_of_lt (Nat.not_le.mp hk)
    rw [Nat.min_eq_right past, List.drop_length, List.take_nil]
    exact (List.drop_of_length_le past).symm
/-- what a drawn picture keeps -/
structure MdOk (m : Md) : Prop where
  last : 1 ≤ m.last ∧ m.last ≤ 1000
  nd : (m.own ++ m.wd.map (·.en)).Nodup
  pool : ∀ z ∈ m.own ++ m.wd.map (·.en), z ∈ pool
  wd : ∀ x ∈ m.wd, WdOk m.own x
  bd : ∀ x ∈ m.bd, BdOk m.pts x
  len : m.own.length ≤ 10 ∧ m.wd.length ≤ 4 ∧ m.bd.length ≤ 40
def Near (far : Int) (x : Wd) : Prop := x.lo ≤ far ∧ x.hi < 2 * far ∧ ∀ i, x.la = some i → i ≤ far
theorem pts_nd {own : List Str} {ends : List Str} (nd : (own ++ ends).Nodup) (hp : ∀ z ∈ own ++ ends, z ∈ pool) : (("start" : Str) :: (own ++ ends)).Nodup :=
  List.nodup_cons.mpr ⟨fun h => (pool_nm (hp _ h)).2 rfl, nd⟩
section
variable {P : Program} {w : World} {K : PySem.W.Frag} {mg : Str → Option Value} {base : Heap}
def sp_drawn : Sp := fun vs H Q _ => ∃ (f c : Addr) (a b e far last : Int), vs = [.ref f, .int a, .int b, .int e, .int far, .int last] ∧ Flow H f c ∧ 1 ≤ a ∧ a ≤ 10 ∧ 0 ≤ b ∧ b ≤ 4 ∧ 0 ≤ e ∧ e ≤ 40 ∧ 1 ≤ far ∧ far ≤ 500 ∧ (e = 0 ∨ far ≤ 250) ∧ 1 ≤ last ∧ last ≤ 1000 ∧
  ∀ (d : Addr) (m : Md) (H' : Hp), Sb f H H' → Flow H' f c → H d = none → MdAt H' d m → MdOk m → m.last = last → m.own.length = a.toNat → m.wd.length = b.toNat → m.bd.length = e.toNat → (∀ x ∈ m.wd, Near far x) → Q (.ref d) H'
def sp_drawnX : Sp := fun vs H Q _ => ∃ (f c : Addr) (a b e far last : Int), vs = [.ref f, .int a, .int b, .int e, .int far, .int last] ∧ Flow H f c ∧ 1 ≤ a ∧ a ≤ 10 ∧ 0 ≤ b ∧ b ≤ 4 ∧ 0 ≤ e ∧ e ≤ 40 ∧ 1 ≤ far ∧ far ≤ 500 ∧ (e = 0 ∨ far ≤ 250) ∧ 1 ≤ last ∧ last ≤ 1000 ∧
  ∀ (d o u b' : Addr) (m : Md) (H' : Hp), Sb f H H' → Flow H' f c → H d = none → H b' = none → MdX H' d o u b' m → MdOk m → m.last = last → m.own.length = a.toNat → m.wd.length = b.toNat → m.bd.length = e.toNat → (∀ x ∈ m.wd, Near far x) → Q (.ref d) H'
theorem cal_drawnX (T : Tp K mg) : Cal P w K mg base 5 "_law_drawn" sp_drawnX := by
  obtain ⟨fd, F⟩ := f__law_drawn T
  refine cal_of F (g__law_drawn T) (b__law_drawn F) sc__law_drawn (fun vs H Q E h => ?_) (fun cdv A outer s H vs Q E hr h => ?_)
  · obtain ⟨f, c, a, b, e, far, last, rfl, _⟩ := h
    rfl
  · obtain ⟨f, c, a, b, e, far, last, rfl, FL, a1, a2, b1, b2, e1, e2, far1, far2, far3, last1, last2, q⟩ := h
    have hu := hu_of hr
    obtain ⟨zs, hf⟩ := FL.lst
    obtain ⟨ys, hc⟩ := FL.cells
    refine ⟨_, (pss_cons (ps_set (i := 6) sc__law_drawn.nd rfl (.inl rfl) (C8.pe_c (cal__law_model T) hr (by decide) rfl (pa_cons (pv 5) pa_nil)))
      (pss_cons (ps_set (i := 7) sc__law_drawn.nd rfl (.inl rfl) (C8.pe_c (cal__law_names T) hr (by decide) rfl (pa_cons (pv 0) (pa_cons (pe_op op_add (pv 1) (pv 2)) pa_nil))))
      (pss_cons (ps_dput hu (pv 6) pe_str (pe_slice sl_list (pv 7) po_none (po_some (pv 1))) rfl)
      (pss_cons (ps_for PassesOwn.never rfl (pi_list (pe_slice sl_list (pv 7) (po_some (pv 1)) po_none)) (pg_name (i := 8) sc__law_drawn.nd rfl (.inl rfl))
        (pss_one (ps_expr (pe_bm PySem.F.plainAttrs_list PySem.F.slot_list_append PySem.F.type_list_append mt_append (pe_dget hu (pv 6) pe_str (fun _ _ => rfl)) (pa_cons (C8.pe_c (cal__law_wind T) hr (by decide) rfl (pa_cons (pv 0) (pa_cons (pv 8) (pa_cons (pe_dget hu (pv 6) pe_str (fun _ _ => rfl)) (pa_cons (pv 4) pa_nil))))) pa_nil)))))
      (pss_cons (ps_for PassesOwn.never rfl (pi_range1 rfl (z_range T) (pa_cons (pv 3) pa_nil)) (pg_name (i := 9) sc__law_drawn.nd rfl (.inl rfl))
        (pss_one (ps_expr (pe_bm PySem.F.plainAttrs_list PySem.F.slot_list_append PySem.F.type_list_append mt_append (pe_dget hu (pv 6) pe_str (fun _ _ => rfl)) (pa_cons (C8.pe_c (cal__law_bond T) hr (by decide) rfl (pa_cons (pv 0) (pa_cons (C8.pe_c (cal__law_points T) hr (by decide) rfl (pa_cons (pv 6) pa_nil)) (pa_cons (pv 4) pa_nil)))) pa_nil)))))
      (pss_one (ps_ret (pv 6)))))))), ?_⟩
    refine ⟨_, rfl, last, rfl, fun d o0 u b' H1 s1 nd no0 nu nb' M1 => ?_⟩
    have F1 := FL.same s1
    refine ⟨_, rfl, _, rfl, _, rfl, _, _, rfl, rfl, f, c, a + b, rfl, F1, by omega, by omega, fun g ns H2 sb2 F2 ng hg len nns hp => ?_⟩
    have sbH2 : Sb f H H2 := (Sb.of s1).trans sb2
    have M2 := M1.sb F1 sb2
    -- m['own'] = names[:own]
    refine ⟨_, rfl, _, rfl, a, rfl, g, _, rfl, .inl (.inl hg), fun o no => ?_⟩
    rw [cut_pre ns (by omega)]
    have s3 := same_upd (o := .lst ((ns.take a.toNat).map V.str)) no
    have M3 := M2.same s3
    have F3 := F2.same s3
    have noH : H o = none := sb_free sbH2 F2 no
    refine ⟨_, rfl, d, _, rfl, DPut.k (k := kOwn) M3.dk (by show 4 < sizeLine; decide), ?_⟩
    rw [mk_putOwn]
    have hdo : ∀ x y, (upd H2 o (.lst ((ns.take a.toNat).map V.str))) x = some y → x ≠ d → (upd (upd H2 o (.lst ((ns.take a.toNat).map V.str))) d (.dK (mk last o u b'))) x = some y := fun x y ex nx => by
      rw [upd_ne nx]
      exact ex
    obtain ⟨ws3, hw3, _⟩ := M2.wd
    obtain ⟨bs3, hb3, _⟩ := M2.bd
    have nod : o ≠ d := (ne_of_none M2.dk no).symm
    have nou : o ≠ u := (ne_of_none hw3 no).symm
    have nob : o ≠ b' := (ne_of_none hb3 no).symm
    have nfd : f ≠ d := ne_of_none hf nd
    have ncd : c ≠ d := ne_of_none hc nd
    have nfu : f ≠ u := ne_of_none hf nu
    have ncu : c ≠ u := ne_of_none hc nu
    have nfb : f ≠ b' := ne_of_none hf nb'
    have ncb : c ≠ b' := ne_of_none hc nb'
    have M4 : MdX (upd (upd H2 o (.lst ((ns.take a.toNat).map V.str))) d (.dK (mk last o u b'))) d o u b' ⟨last, ns.take a.toNat, [], []⟩ := by
      have dd := M3.dk
      refine ⟨upd_same, hdo _ _ upd_same nod, ⟨ws3, hdo _ _ (s3 _ _ hw3) (ne_of (s3 _ _ hw3) dd (by intro z; cases z)), ?_⟩, ⟨bs3, hdo _ _ (s3 _ _ hb3) (ne_of (s3 _ _ hb3) dd (by intro z; cases z)), ?_⟩, nou, nob, M3.nwb⟩
      · obtain ⟨ws, h1, h2⟩ := M2.wd
        rw [hw3] at h1
        cases h1
        have e0 := h2.len
        have e1 : ws3 = [] := List.length_eq_zero_iff.mp e0
        rw [e1]
        exact .nil
      · obtain ⟨ws, h1, h2⟩ := M2.bd
        rw [hb3] at h1
        cases h1
        have e0 := h2.len
        have e1 : bs3 = [] := List.length_eq_zero_iff.mp e0
        rw [e1]
        exact .nil
    have F4 : Flow (upd (upd H2 o (.lst ((ns.take a.toNat).map V.str))) d (.dK (mk last o u b'))) f c := F3.upd nfd ncd
    have sbH4 : Sb f H (upd (upd H2 o (.lst ((ns.take a.toNat).map V.str))) d (.dK (mk last o u b'))) := fun x y ex nx => hdo _ _ (s3 _ _ (sbH2 _ _ ex nx)) (ne_of_none ex nd)
    have hg4 : (upd (upd H2 o (.lst ((ns.take a.toNat).map V.str))) d (.dK (mk last o u b'))) g = some (.lst (ns.map V.str)) := hdo _ _ (s3 _ _ hg) (ne_of (s3 _ _ hg) M3.dk (by intro z; cases z))
    -- for end in names[own:]
    refine ⟨_, rfl, _, rfl, a, rfl, g, _, rfl, .inl (.inl hg4), fun r nr => ?_⟩
    rw [cut_suf ns (by omega)]
    have s5 := same_upd (o := .lst ((ns.drop a.toNat).map V.str)) nr
    have M5 := M4.same s5
    have F5 := F4.same s5
    obtain ⟨ws4, hw4, _⟩ := M4.wd
    have nru : r ≠ u := (ne_of_none hw4 nr).symm
    have elen : (ns.take a.toNat).length = a.toNat := by
      rw [List.length_take]
      omega
    have blen : (ns.drop a.toNat).length = b.toNat := by
      rw [List.length_drop]
      omega
    have sbH5 := sbH4.trans (Sb.of s5)
    have spl : ns.take a.toNat ++ ns.drop a.toNat = ns := List.take_append_drop _ _
    refine ⟨r, rfl, ⟨_, .inl (.inl upd_same)⟩, for_list (K := K) (a := r) (xs := (ns.drop a.toNat).map V.str) (fun i σ H6 => ∃ (y : Option V) (ds : List Wd), σ = [some (.ref f), some (.int a), some (.int b), some (.int e), some (.int far), some (.int last), some (.ref d), some (.ref g), y, none] ∧
        Sb f H H6 ∧ Flow H6 f c ∧ MdX H6 d o u b' ⟨last, ns.take a.toNat, ds, []⟩ ∧ H6 r = some (.lst ((ns.drop a.toNat).map V.str)) ∧ ds.map (·.en) = (ns.drop a.toNat).take i ∧ ∀ x ∈ ds, WdOk (ns.take a.toNat) x ∧ Near far x)
      ⟨none, [], rfl, sbH5, F5, M5, upd_same, rfl, fun x hx => nomatch hx⟩ (fun i σ H6 _ ⟨_, _, _, _, _, _, h, _⟩ => .inl (.inl h)) ?_ ?_⟩
    · rintro i x σ H6 hx ⟨y, ds, rfl, sb6, F6, M6, hr6, eds, hds⟩
      rw [List.getElem?_map] at hx
      cases ez : (ns.drop a.toNat)[i]? with
      | none =>
        rw [ez] at hx
        cases hx
      | some z =>
        rw [ez] at hx
        cases hx
        obtain ⟨ws6, hw6, rw6⟩ := M6.wd
        refine ⟨_, rfl, d, _, rfl, mk_wd M6.dk, .inl ⟨rfl, _, .inl (.inl hw6)⟩, _, rfl, _, rfl, _, rfl, d, _, rfl, mk_own M6.dk, _, rfl, f, c, o, z, _, far, rfl, F6, M6.own, by show (ns.take a.toNat).length ≤ 14; omega, far1, far2, fun t x H7 sb7 F7 nt ht ex ok near => ?_⟩
        have M7 := M6.sb F6 sb7
        obtain ⟨ws7, hw7, rw7⟩ := M7.wd
        refine ⟨u, ws7, _, rfl, rfl, hw7, ?_, ?_⟩
        · rw [rw7.len, List.length_map]
          have hl : ds.length = i := by
            have := congrArg List.length eds
            rw [List.length_map, List.length_take] at this
            have hi : i < (ns.drop a.toNat).length := (List.getElem?_eq_some_iff.mp ez).1
            omega
          have hi : i < (ns.drop a.toNat).length := (List.getElem?_eq_some_iff.mp ez).1
          show ds.length < sizeLine
          exact small1000 (by omega)
        · refine ⟨_, ds ++ [x], rfl, ?_, F7.upd nfu ncu, M7.addW hw7 rw7 ht, ?_, ?_, ?_⟩
          · exact fun p v ep np => by
              rw [upd_ne (ne_of_none ep nu)]
              exact sb7 _ _ (sb6 _ _ ep np) np
          · rw [upd_ne nru]
            exact sb7 _ _ hr6 (strs_flow F6 hr6)
          · rw [List.map_append, eds, List.take_add_one, ez]
            show _ ++ [x.en] = _ ++ [z]
            rw [ex]
          · intro v hv
            rcases List.mem_append.mp hv with h | h
            · exact hds v h
            · have e : v = x := List.mem_singleton.mp h
              rw [e]
              exact ⟨ok, near⟩
    · rintro σ H6 ⟨y, ds, rfl, sb6, F6, M6, hr6, eds, hds⟩
      have eds : ds.map (·.en) = ns.drop a.toNat := by
        rw [eds]
        exact List.take_of_length_le (by rw [List.length_map]; exact Nat.le_refl _)
      have dlen : ds.length = b.toNat := by
        have := congrArg List.length eds
        rw [List.length_map] at this
        omega
      have pnd : (("start" : Str) :: (ns.take a.toNat ++ ds.map (·.en))).Nodup := pts_nd (by rw [eds, spl]; exact nns) (by rw [eds, spl]; exact hp)
      -- the ties
      refine ⟨_, rfl, e, rfl, by omega, by omega, ?_⟩
      refine for_range (lo := 0) (n := e.toNat) (fun i σ H7 => ∃ (y9 : Option V) (es : List Bd), σ = [some (.ref f), some (.int a), some (.int b), some (.int e), some (.int far), some (.int last), some (.ref d), some (.ref g), y, y9] ∧
        Sb f H H7 ∧ Flow H7 f c ∧ MdX H7 d o u b' ⟨last, ns.take a.toNat, ds, es⟩ ∧ es.length = i ∧ ∀ x ∈ es, BdOk (("start" : Str) :: (ns.take a.toNat ++ ds.map (·.en))) x) ⟨none, [], rfl, sb6, F6, M6, rfl, fun x hx => nomatch hx⟩ ?_ ?_
      · rintro i σ H7 hi ⟨y9, es, rfl, sb7, F7, M7, el, hes⟩
        obtain ⟨bs7, hb7, rb7⟩ := M7.bd
        refine ⟨_, rfl, d, _, rfl, mk_bd M7.dk, .inl ⟨rfl, _, .inl (.inl hb7)⟩, _, rfl, _, rfl, d, _, rfl, M7.at, by show (ns.take a.toNat).length ≤ 14; omega, by show ds.length ≤ 14; omega, fun pl H8 s8 npl hpl => ?_⟩
        have F8 := F7.same s8
        refine ⟨_, rfl, f, c, pl, _, far, rfl, F8, hpl, ?_, ?_, pnd, far1, by omega, fun t x H9 sb9 F9 nt ht ok => ?_⟩
        · show 2 ≤ (("start" : Str) :: (ns.take a.toNat ++ ds.map (·.en))).length
          rw [List.length_cons, List.length_append, elen]
          omega
        · show (("start" : Str) :: (ns.take a.toNat ++ ds.map (·.en))).length ≤ 100
          rw [List.length_cons, List.length_append, elen, List.length_map]
          omega
        · have M9 := (M7.same s8).sb F8 sb9
          obtain ⟨bs9, hb9, rb9⟩ := M9.bd
          refine ⟨b', bs9, _, rfl, rfl, hb9, ?_, _, es ++ [x], rfl, ?_, F9.upd nfb ncb, M9.addB hb9 rb9 ht, by rw [List.length_append, el]; rfl, ?_⟩
          · rw [rb9.len, List.length_map]
            show es.length < sizeLine
            exact small1000 (by omega)
          · exact fun p v ep np => by
              rw [upd_ne (ne_of_none ep nb')]
              exact sb9 _ _ (s8 _ _ (sb7 _ _ ep np)) np
          · intro v hv
            rcases List.mem_append.mp hv with h | h
            · exact hes v h
            · have e : v = x := List.mem_singleton.mp h
              rw [e]
              exact ok
      · rintro σ H7 ⟨y9, es, rfl, sb7, F7, M7, el, hes⟩
        refine ⟨_, rfl, q d o u b' ⟨last, ns.take a.toNat, ds, es⟩ H7 sb7 F7 nd nb' M7 ⟨⟨last1, last2⟩, ?_, ?_, fun x hx => (hds x hx).1, hes, ?_⟩ rfl elen dlen el fun x hx => (hds x hx).2⟩
        · show (ns.take a.toNat ++ ds.map (·.en)).Nodup
          rw [eds, spl]
          exact nns
        · show ∀ z ∈ ns.take a.toNat ++ ds.map (·.en), z ∈ pool
          rw [eds, spl]
          exact hp
        · show (ns.take a.toNat).length ≤ 10 ∧ ds.length ≤ 4 ∧ es.length ≤ 40
          omega
theorem cal_imp {k : Nat} {x : Str} {sp sp' : Sp} {dvs : List V} (c : C8.Cal P w K mg base k x sp dvs) (h : ∀ vs H Q E, sp' vs H Q E → sp vs H Q E) : C8.Cal P w K mg base k x sp' dvs :=
  let ⟨f, fd, ps, ds, F, a, b, c, d⟩ := c.ex
  ⟨f, fd, ps, ds, F.imp h, a, b, c, d⟩
theorem cal__law_drawn (T : Tp K mg) : Cal P w K mg base 5 "_law_drawn" sp_drawn := cal_imp (cal_drawnX T) fun vs H Q E h => by
  obtain ⟨f, c, a, b, e, far, last, e0, FL, h1, h2, h3, h4, h5, h6, h7, h8, h9, h10, h11, q⟩ := h
  exact ⟨f, c, a, b, e, far, last, e0, FL, h1, h2, h3, h4, h5, h6, h7, h8, h9, h10, h11, fun d o u b' m H' sb F' nd _ M => q d m H' sb F' nd M.at⟩
end
end Tw

set_option maxHeartbeats 4000000
namespace Tw
open PySem PySem.Spec PyProof.Rows L2
theorem nd_take {α : Type} {l : List α} {i : Nat} {z : α} (nd : l.Nodup) (e : l[i]? = some z) : ¬ z ∈ l.take i := by
  have h : (l.take (i + 1)).Nodup := List.Sublist.nodup (List.take_sublist _ _) nd
  rw [List.take_add_one, e] at h
  intro m
  exact (List.nodup_append.mp h).2.2 z m z (List.mem_singleton.mpr rfl) rfl
theorem row_of {xs : List V} {H : Hp} {α : Type} {f : α → List V} {l : List α} {i : Nat} {x : V} (R : Rows H xs (l.map f)) (hx : xs[i]? = some x) : ∃ t y, x = .ref t ∧ l[i]? = some y ∧ H t = some (.tup (f y)) := by
  obtain ⟨t, r, e, hr, ht⟩ := R.at hx
  rw [List.getElem?_map] at hr
  cases ey : l[i]? with
  | none =>
    rw [ey] at hr
    cases hr
  | some y =>
    rw [ey] at hr
    cases hr
    exact ⟨t, y, e, rfl, ht⟩
section
variable {P : Program} {w : World} {K : PySem.W.Frag} {mg : Str → Option Value} {base : Heap}
def sp_web (K : PySem.W.Frag) : Sp := fun vs H Q _ => ∃ (d : Addr) (m : Md), vs = [.ref d] ∧ MdAt H d m ∧ MdOk m ∧ ∀ (p : Addr) (H' : Hp), Same H H' → H p = none → WebAt (CW K) H' p m → Q (.ref p) H'
theorem cal__law_web (T : Tp K mg) : Cal P w K mg base 7 "_law_web" (sp_web K) := by
  obtain ⟨fd, F⟩ := f__law_web T
  refine cal_of F (g__law_web T) (b__law_web F) sc__law_web (fun vs H Q E h => ?_) (fun cdv A outer s H vs Q E hr h => ?_)
  · obtain ⟨d, m, rfl, _⟩ := h
    rfl
  · obtain ⟨d, m, rfl, M, ok, q⟩ := h
    have hu := hu_of hr
    obtain ⟨o, u, b, ws, bs, h1, h2, h3, h4, h5, h6, h7⟩ := M.ex
    have hlen := ok.len
    have ndo : m.own.Nodup := (List.nodup_append.mp ok.nd).1
    have nde : (m.wd.map (·.en)).Nodup := (List.nodup_append.mp ok.nd).2.1
    refine ⟨_, (pss_cons (ps_set (i := 1) sc__law_web.nd rfl (.inl rfl) (C8.pe_mk (mak_Web T) hr (by decide) rfl (pa_cons (pe_dget hu (pv 0) pe_str (fun _ _ => rfl)) pa_nil)))
      (pss_cons (ps_for PassesOwn.never rfl (pi_list (pe_dget hu (pv 0) pe_str (fun _ _ => rfl))) (pg_name (i := 2) sc__law_web.nd rfl (.inl rfl))
        (pss_one (ps_set (i := 1) sc__law_web.nd rfl (.inl rfl) (C8.pe_mt (met_Web_with_moment T) hr (by decide) (pv 1) (pa_cons (pv 2) pa_nil)))))
      (pss_cons (ps_for PassesOwn.never rfl (pi_list (pe_dget hu (pv 0) pe_str (fun _ _ => rfl))) (pg_tup rfl (pgs_cons (pg_name (i := 3) sc__law_web.nd rfl (.inl rfl)) (pgs_cons (pg_name (i := 4) sc__law_web.nd rfl (.inl rfl)) (pgs_cons (pg_name (i := 5) sc__law_web.nd rfl (.inl rfl)) (pgs_cons (pg_name (i := 6) sc__law_web.nd rfl (.inl rfl)) (pgs_cons (pg_name (i := 7) sc__law_web.nd rfl (.inl rfl)) pgs_nil))))))
        (pss_one (ps_set (i := 1) sc__law_web.nd rfl (.inl rfl) (pe_mg0 (met_Web_with_span T) hr (by decide) (pv 1) (pa_cons (pv 3) (pa_cons (pv 4) (pa_cons (pv 5) (pa_cons (pv 6) pa_nil)))) (pk_cons (pv 7) pk_nil)))))
      (pss_cons (ps_for PassesOwn.never rfl (pi_list (pe_dget hu (pv 0) pe_str (fun _ _ => rfl))) (pg_tup rfl (pgs_cons (pg_name (i := 8) sc__law_web.nd rfl (.inl rfl)) (pgs_cons (pg_name (i := 9) sc__law_web.nd rfl (.inl rfl)) (pgs_cons (pg_name (i := 10) sc__law_web.nd rfl (.inl rfl)) (pgs_cons (pg_name (i := 11) sc__law_web.nd rfl (.inl rfl)) pgs_nil)))))
        (pss_one (ps_set (i := 1) sc__law_web.nd rfl (.inl rfl) (pe_mg0 (met_Web_with_tie T) hr (by decide) (pv 1) (pa_cons (pv 8) (pa_cons (pv 9) pa_nil)) (pk_cons (pv 10) (pk_cons (pv 11) pk_nil))))))
      (pss_one (ps_ret (pv 1))))))), ?_⟩
    refine ⟨_, rfl, d, _, rfl, mk_by h1, fun x dx nx ndx ne => ⟨x, dx, m.last, rfl, upd_same, ok.last.1, ok.last.2, fun a0 b0 c0 H1 kp hp ha0 hb0 hc0 => ⟨rfl, ?_⟩⟩⟩
    have s1 : Same H H1 := Same.made nx ndx kp
    have W1 : WebAt (CW K) H1 x ⟨m.last, [], [], []⟩ := ⟨⟨dx, a0, b0, c0, [], [], hp, ha0, hb0, .nil, hc0, .nil⟩, ⟨by show 0 ≤ 10; decide, by show 0 ≤ 4; decide, by show 0 ≤ 40; decide⟩, ok.last⟩
    -- the moments
    refine ⟨_, rfl, d, _, rfl, mk_own (s1 _ _ h1), o, rfl, ⟨_, .inl (.inl (s1 _ _ h2))⟩, for_list (K := K) (a := o) (xs := m.own.map V.str) (fun i σ H2 => ∃ (p : Addr) (y : Option V), σ = [some (.ref d), some (.ref p), y, none, none, none, none, none, none, none, none, none] ∧
      Same H H2 ∧ H p = none ∧ WebAt (CW K) H2 p ⟨m.last, m.own.take i, [], []⟩) ⟨x, none, rfl, s1, nx, W1⟩ (fun i σ H2 _ ⟨_, _, _, s2, _⟩ => .inl (.inl (s2 _ _ h2))) ?_ ?_⟩
    · rintro i v σ H2 hv ⟨p, y, rfl, s2, np, W2⟩
      rw [List.getElem?_map] at hv
      cases ez : m.own[i]? with
      | none =>
        rw [ez] at hv
        cases hv
      | some z =>
        rw [ez] at hv
        cases hv
        have hi : i < m.own.length := (List.getElem?_eq_some_iff.mp ez).1
        have hz := pool_nm (ok.pool z (List.mem_append.mpr (.inl (List.mem_of_getElem? ez))))
        obtain ⟨dx2, _, _, _, _, _, g1, _⟩ := W2.ex
        refine ⟨_, rfl, p, dx2, _, rfl, g1, wf_no (by decide +kernel), _, rfl, p, _, z, rfl, W2, hz.1, ?_, ?_, fun r H3 s3 nr W3 => ?_⟩
        · intro hm
          rcases List.mem_cons.mp hm with e | e
          · exact hz.2 e
          · rcases List.mem_append.mp e with e | e
            · exact nd_take ndo ez e
            · cases e
        · show (m.own.take i).length < 10
          rw [List.length_take]
          omega
        · refine ⟨r, _, rfl, s2.trans s3, s2.free nr, ?_⟩
          rw [List.take_add_one, ez]
          exact W3
    · rintro σ H2 ⟨p, y, rfl, s2, np, W2⟩
      have e0 : m.own.take (m.own.map V.str).length = m.own := List.take_of_length_le (by rw [List.length_map]; exact Nat.le_refl _)
      rw [e0] at W2
      -- the spans
      refine ⟨_, rfl, d, _, rfl, mk_wd (s2 _ _ h1), u, rfl, ⟨_, .inl (.inl (s2 _ _ h3))⟩, for_list (K := K) (a := u) (xs := ws) (fun i σ H3 => ∃ (p : Addr) (y3 y4 y5 y6 y7 : Option V), σ = [some (.ref d), some (.ref p), y, y3, y4, y5, y6, y7, none, none, none, none] ∧
        Same H H3 ∧ H p = none ∧ WebAt (CW K) H3 p ⟨m.last, m.own, m.wd.take i, []⟩) ⟨p, none, none, none, none, none, rfl, s2, np, W2⟩ (fun i σ H3 _ ⟨_, _, _, _, _, _, _, s3, _⟩ => .inl (.inl (s3 _ _ h3))) ?_ ?_⟩
      · rintro i v σ H3 hv ⟨p, y3, y4, y5, y6, y7, rfl, s3, np, W3⟩
        obtain ⟨t, y, rfl, ey, ht⟩ := row_of h4 hv
        have hi : i < m.wd.length := (List.getElem?_eq_some_iff.mp ey).1
        have hy := ok.wd y (List.mem_of_getElem? ey)
        have een : (m.wd.map (·.en))[i]? = some y.en := by
          rw [List.getElem?_map, ey]
          rfl
        have hmem : y.en ∈ m.own ++ m.wd.map (·.en) := List.mem_append.mpr (.inr (List.mem_of_getElem? een))
        have hz := pool_nm (ok.pool y.en hmem)
        obtain ⟨dx3, _, _, _, _, _, g1, _⟩ := W3.ex
        refine ⟨t, y.row, rfl, .inl (.inl (s3 _ _ ht)), rfl, _, _, rfl, _, _, rfl, _, _, rfl, _, _, rfl, _, _, rfl, rfl, ?_⟩
        refine ⟨_, rfl, p, dx3, _, rfl, g1, wf_no (by decide +kernel), _, rfl, _, rfl, _, rfl, _, rfl, _, rfl, rfl, rfl, p, _, y, rfl, W3, ⟨hz.1, ?_, hy.bg, hy.lo, hy.hi, hy.top, hy.la, ?_⟩, fun r H4 s4 nr W4 => ?_⟩
        · intro hm
          rcases List.mem_cons.mp hm with e | e
          · exact hz.2 e
          · rcases List.mem_append.mp e with e | e
            · exact (List.nodup_append.mp ok.nd).2.2 _ e _ (List.mem_of_getElem? een) rfl
            · have e : y.en ∈ (m.wd.map (·.en)).take i := by
                rw [← List.map_take]
                exact e
              exact nd_take nde een e
        · show (m.wd.take i).length < 4
          rw [List.length_take]
          omega
        · refine ⟨r, _, _, _, _, _, rfl, s3.trans s4, s3.free nr, ?_⟩
          rw [List.take_add_one, ey]
          exact W4
      · rintro σ H3 ⟨p, y3, y4, y5, y6, y7, rfl, s3, np, W3⟩
        have ew : ws.length = m.wd.length := by rw [h4.len, List.length_map]
        have e0 : m.wd.take ws.length = m.wd := List.take_of_length_le (by omega)
        rw [e0] at W3
        -- the ties
        refine ⟨_, rfl, d, _, rfl, mk_bd (s3 _ _ h1), b, rfl, ⟨_, .inl (.inl (s3 _ _ h5))⟩, for_list (K := K) (a := b) (xs := bs) (fun i σ H4 => ∃ (p : Addr) (y8 y9 y10 y11 : Option V), σ = [some (.ref d), some (.ref p), y, y3, y4, y5, y6, y7, y8, y9, y10, y11] ∧
          Same H H4 ∧ H p = none ∧ WebAt (CW K) H4 p ⟨m.last, m.own, m.wd, m.bd.take i⟩) ⟨p, none, none, none, none, rfl, s3, np, W3⟩ (fun i σ H4 _ ⟨_, _, _, _, _, _, s4, _⟩ => .inl (.inl (s4 _ _ h5))) ?_ ?_⟩
        · rintro i v σ H4 hv ⟨p, y8, y9, y10, y11, rfl, s4, np, W4⟩
          obtain ⟨t, y, rfl, ey, ht⟩ := row_of h6 hv
          have hi : i < m.bd.length := (List.getElem?_eq_some_iff.mp ey).1
          have hy := ok.bd y (List.mem_of_getElem? ey)
          obtain ⟨dx4, _, _, _, _, _, g1, _⟩ := W4.ex
          refine ⟨t, y.row, rfl, .inl (.inl (s4 _ _ ht)), rfl, _, _, rfl, _, _, rfl, _, _, rfl, _, _, rfl, rfl, ?_⟩
          refine ⟨_, rfl, p, dx4, _, rfl, g1, wf_no (by decide +kernel), _, rfl, _, rfl, _, rfl, _, rfl, rfl, rfl, p, _, y, rfl, W4, ⟨hy.one, hy.oth, hy.ne, hy.b, ?_⟩, fun r H5 s5 nr W5 => ?_⟩
          · show (m.bd.take i).length < 40
            rw [List.length_take]
            omega
          · refine ⟨r, _, _, _, _, rfl, s4.trans s5, s4.free nr, ?_⟩
            rw [List.take_add_one, ey]
            exact W5
        · rintro σ H4 ⟨p, y8, y9, y10, y11, rfl, s4, np, W4⟩
          have eb : bs.length = m.bd.length := by rw [h6.len, List.length_map]
          have e0 : m.bd.take bs.length = m.bd := List.take_of_length_le (by omega)
          rw [e0] at W4
          exact ⟨_, rfl, q p H4 s4 np W4⟩
end
end Tw

set_option maxHeartbeats 4000000
namespace Tw
open PySem PySem.Spec PyProof.Rows L2
/-- two values that are the same through and through, at most n deep -/
theorem small8s {n : Nat} (h : n ≤ 8000000) : n < sizeLine := by
  show n < 16777216
  omega
def Sm : Nat → V → V → Hp → Prop
  | 0, _, _, _ => False
  | n + 1, x, y, H => (x = y ∧ flatV x = true) ∨ ∃ (a b : Addr) (xs ys : List V), x = .ref a ∧ y = .ref b ∧ ((H a = some (.lst xs) ∧ H b = some (.lst ys)) ∨ (H a = some (.tup xs) ∧ H b = some (.tup ys))) ∧ xs.length = ys.length ∧ xs.length ≤ 8000000 ∧
    ∀ (i : Nat) (x y : V), xs[i]? = some x → ys[i]? = some y → Sm n x y H
theorem Sm.same {H H' : Hp} (s : Same H H') : ∀ {n : Nat} {x y : V}, Sm n x y H → Sm n x y H'
  | 0, _, _, h => h.elim
  | n + 1, x, y, h => by
    rcases h with h | ⟨a, b, xs, ys, ex, ey, h, hl, hl2, hi⟩
    · exact .inl h
    · refine .inr ⟨a, b, xs, ys, ex, ey, ?_, hl, hl2, fun i x y h1 h2 => Sm.same s (hi i x y h1 h2)⟩
      rcases h with ⟨h1, h2⟩ | ⟨h1, h2⟩
      · exact .inl ⟨s _ _ h1, s _ _ h2⟩
      · exact .inr ⟨s _ _ h1, s _ _ h2⟩
theorem Sm.succ {H : Hp} : ∀ {n : Nat} {x y : V}, Sm n x y H → Sm (n + 1) x y H
  | 0, _, _, h => h.elim
  | n + 1, x, y, h => by
    rcases h with h | ⟨a, b, xs, ys, ex, ey, h, hl, hl2, hi⟩
    · exact .inl h
    · exact .inr ⟨a, b, xs, ys, ex, ey, h, hl, hl2, fun i x y h1 h2 => Sm.succ (hi i x y h1 h2)⟩
theorem Sm.flat {H : Hp} {n : Nat} {x : V} (h : flatV x = true) : Sm (n + 1) x x H := .inl ⟨rfl, h⟩
theorem sm_eq {H : Hp} {n : Nat} {x y : V} (e : x = y) (h : flatV x = true) : Sm (n + 1) x y H := by
  subst e
  exact Sm.flat h
theorem sm_lst {H : Hp} {a b : Addr} {xs ys : List V} {n : Nat} (h1 : H a = some (.lst xs)) (h2 : H b = some (.lst ys)) (hl : xs.length = ys.length) (h0 : xs.length ≤ 1000) (h : ∀ (i : Nat) (x y : V), xs[i]? = some x → ys[i]? = some y → Sm n x y H) : Sm (n + 1) (.ref a) (.ref b) H :=
  .inr ⟨a, b, xs, ys, rfl, rfl, .inl ⟨h1, h2⟩, hl, Nat.le_trans h0 (by decide), h⟩
theorem sm_tup {H : Hp} {a b : Addr} {xs ys : List V} {n : Nat} (h1 : H a = some (.tup xs)) (h2 : H b = some (.tup ys)) (hl : xs.length = ys.length) (h0 : xs.length ≤ 1000) (h : ∀ (i : Nat) (x y : V), xs[i]? = some x → ys[i]? = some y → Sm n x y H) : Sm (n + 1) (.ref a) (.ref b) H :=
  .inr ⟨a, b, xs, ys, rfl, rfl, .inr ⟨h1, h2⟩, hl, Nat.le_trans h0 (by decide), h⟩
theorem sm_flats {H : Hp} {xs : List V} {n : Nat} (hf : xs.all flatV = true) : ∀ (i : Nat) (x y : V), xs[i]? = some x → xs[i]? = some y → Sm (n + 1) x y H := fun i x y h1 h2 => by
  rw [h1] at h2
  cases h2
  exact Sm.flat (List.all_eq_true.mp hf x (List.mem_of_getElem? h1))
theorem sm_strs {H : Hp} {a b : Addr} {l : List Str} {n : Nat} (h1 : H a = some (.lst (l.map V.str))) (h2 : H b = some (.lst (l.map V.str))) (h0 : l.length ≤ 1000) : Sm (n + 2) (.ref a) (.ref b) H :=
  sm_lst h1 h2 rfl (by rw [List.length_map]; exact h0) (sm_flats (flat_strs l))
theorem sm_rows {H : Hp} {a b : Addr} {xs ys : List V} {rs : List (List V)} {n : Nat} (h1 : H a = some (.lst xs)) (h2 : H b = some (.lst ys)) (r1 : Rows H xs rs) (r2 : Rows H ys rs) (h0 : rs.length ≤ 1000) (hf : ∀ r ∈ rs, r.all flatV = true ∧ r.length ≤ 1000) : Sm (n + 3) (.ref a) (.ref b) H := by
  refine sm_lst h1 h2 (by rw [r1.len, r2.len]) (by rw [r1.len]; exact h0) fun i x y hx hy => ?_
  obtain ⟨t, r, rfl, hr, ht⟩ := r1.at hx
  obtain ⟨u, r', rfl, hr', hu⟩ := r2.at hy
  rw [hr] at hr'
  cases hr'
  have hr2 := hf r (List.mem_of_getElem? hr)
  exact sm_tup ht hu rfl hr2.2 (sm_flats hr2.1)
/-- rows, however many -/
theorem sm_rows8 {H : Hp} {a b : Addr} {xs ys : List V} {rs : List (List V)} {n : Nat} (h1 : H a = some (.lst xs)) (h2 : H b = some (.lst ys)) (r1 : Rows H xs rs) (r2 : Rows H ys rs) (h0 : rs.length ≤ 8000000) (hf : ∀ r ∈ rs, r.all flatV = true ∧ r.length ≤ 1000) : Sm (n + 3) (.ref a) (.ref b) H := by
  refine .inr ⟨a, b, xs, ys, rfl, rfl, .inl ⟨h1, h2⟩, by rw [r1.len, r2.len], by rw [r1.len]; exact h0, fun i x y hx hy => ?_⟩
  obtain ⟨t, r, rfl, hr, ht⟩ := r1.at hx
  obtain ⟨u, r', rfl, hr', hu⟩ := r2.at hy
  rw [hr] at hr'
  cases hr'
  have hr2 := hf r (List.mem_of_getElem? hr)
  exact sm_tup ht hu rfl hr2.2 (sm_flats hr2.1)
theorem rIx_of {K : PySem.W.Frag} {H : Hp} {a : Addr} {xs : List V} {i : Int} {v : V} {Q : VK} (h : SqL K H a xs ∨ SqT K H a xs) (e : atI xs i = some v) (q : Q v H) : rIx K (.ref a) (.int i) H Q := by
  rcases h with h | h
  · exact .inl ⟨a, xs, i, v, rfl, rfl, h, e, q⟩
  · exact .inr (.inl ⟨a, xs, i, v, rfl, rfl, h, e, q⟩)
theorem sq_same {K : PySem.W.Frag} {H H' : Hp} {a : Addr} {xs : List V} (s : Same H H') (h : SqL K H a xs ∨ SqT K H a xs) : SqL K H' a xs ∨ SqT K H' a xs := by
  rcases h with h | h
  · exact .inl (s.seq h)
  · refine .inr ?_
    rcases h with (h | ⟨o, h⟩) | h
    · exact .inl (.inl (s _ _ h))
    · exact .inl (.inr ⟨o, s _ _ h⟩)
    · exact .inr h
theorem lenV_of {K : PySem.W.Frag} {H : Hp} {a : Addr} {xs : List V} (h : SqL K H a xs ∨ SqT K H a xs) : LenV K (.ref a) H xs.length := by
  rcases h with h | h
  · exact .inl ⟨xs, h, rfl⟩
  · exact .inr ⟨xs, h, rfl⟩
section
variable {P : Program} {w : World} {K : PySem.W.Frag} {mg : Str → Option Value} {base : Heap}
def sp_same (n : Nat) : Sp := fun vs H Q _ => ∃ x y : V, vs = [x, y] ∧ Sm n x y H ∧ ∀ H', Same H H' → Q (.bl true) H'
theorem cal_same (T : Tp K mg) : ∀ n : Nat, Cal P w K mg base n "_law_same" (sp_same n)
  | 0 => by
    obtain ⟨fd, F⟩ := f__law_same T
    exact ⟨_, fd, ["_law_found", "_law_due"], [], ⟨fun vs H Q E h => by
      obtain ⟨x, y, rfl, _⟩ := h
      rfl, fun A outer s H args us vs Q E _ _ _ _ h => by
      obtain ⟨x, y, rfl, h, _⟩ := h
      exact h.elim⟩, g__law_same T, F.kp, b__law_same F, .nil⟩
  | n + 1 => by
    have ih := cal_same T n
    obtain ⟨fd, F⟩ := f__law_same T
    refine cal_of F (g__law_same T) (b__law_same F) sc__law_same (fun vs H Q E h => ?_) (fun cdv A outer s H vs Q E hr h => ?_)
    · obtain ⟨x, y, rfl, _⟩ := h
      rfl
    · obtain ⟨x, y, rfl, h, q⟩ := h
      refine ⟨_, (pss_cons (ps_if (pt_val (pe_callB call_isK (by rfl) (z_isinstance T) bb_isinstance (pa_cons (pv 1) (pa_cons (pe_bltn (v := .ty "bool") (by rfl) (z_bool T) bb_bool rfl) pa_nil)))) (pss_one (ps_ret (pe_and (pe_callB call_isK (by rfl) (z_isinstance T) bb_isinstance (pa_cons (pv 0) (pa_cons (pe_bltn (v := .ty "bool") (by rfl) (z_bool T) bb_bool rfl) pa_nil))) (pe_one (pe_cmpR op_eq (pv 0) (pv 1) (nomark _)))))) pss_nil)
      (pss_cons (ps_if (pt_cmpR op_isN (pv 1) pe_non (nomark _)) (pss_one (ps_ret (pe_cmpR op_isN (pv 0) pe_non (nomark _)))) pss_nil)
      (pss_cons (ps_if (pt_val (pe_callB call_isK (by rfl) (z_isinstance T) bb_isinstance (pa_cons (pv 1) (pa_cons (pe_bltn (v := .ty "int") (by rfl) (z_int T) bb_int rfl) pa_nil)))) (pss_cons (ps_if (PW.pt (pw_or (pt_val (pe_callB call_isK (by rfl) (z_isinstance T) bb_isinstance (pa_cons (pv 0) (pa_cons (pe_bltn (v := .ty "bool") (by rfl) (z_bool T) bb_bool rfl) pa_nil)))) (pw_or1 (pt_not (pt_val (pe_callB call_isK (by rfl) (z_isinstance T) bb_isinstance (pa_cons (pv 0) (pa_cons (pe_bltn (v := .ty "int") (by rfl) (z_int T) bb_int rfl) pa_nil)))))))) (pss_one (ps_ret pe_bl)) pss_nil)
        (pss_one (ps_ret (pe_cmpR op_eq (pv 0) (pv 1) (nomark _))))) pss_nil)
      (pss_cons (ps_if (pt_val (pe_callB call_isK (by rfl) (z_isinstance T) bb_isinstance (pa_cons (pv 1) (pa_cons (pe_bltn (v := .ty "str") (by rfl) (z_str T) bb_str rfl) pa_nil)))) (pss_one (ps_ret (pe_and (pe_callB call_isK (by rfl) (z_isinstance T) bb_isinstance (pa_cons (pv 0) (pa_cons (pe_bltn (v := .ty "str") (by rfl) (z_str T) bb_str rfl) pa_nil))) (pe_one (pe_cmpR op_eq (pv 0) (pv 1) (nomark _)))))) pss_nil)
      (pss_cons (ps_if (pt_val (pe_callB call_isK (by rfl) (z_isinstance T) bb_isinstance (pa_cons (pv 1) (pa_cons (pe_bltn (v := .ty "dict") (by rfl) (z_dict T) bb_dict rfl) pa_nil)))) pss_never pss_nil)
      (pss_cons (ps_if (PW.pt (pw_and (pt_val (pe_callB call_isK (by rfl) (z_isinstance T) bb_isinstance (pa_cons (pv 1) (pa_cons (pe_bltn (v := .ty "tuple") (by rfl) (z_tuple T) bb_tuple rfl) pa_nil)))) (pw_and1 (pt_not (pt_val (pe_callB call_isK (by rfl) (z_isinstance T) bb_isinstance (pa_cons (pv 0) (pa_cons (pe_bltn (v := .ty "tuple") (by rfl) (z_tuple T) bb_tuple rfl) pa_nil)))))))) (pss_one (ps_ret pe_bl)) pss_nil)
      (pss_cons (ps_if (PW.pt (pw_and (pt_val (pe_callB call_isK (by rfl) (z_isinstance T) bb_isinstance (pa_cons (pv 1) (pa_cons (pe_bltn (v := .ty "list") (by rfl) (z_list T) bb_list rfl) pa_nil)))) (pw_and1 (pt_not (pt_val (pe_callB call_isK (by rfl) (z_isinstance T) bb_isinstance (pa_cons (pv 0) (pa_cons (pe_bltn (v := .ty "list") (by rfl) (z_list T) bb_list rfl) pa_nil)))))))) (pss_one (ps_ret pe_bl)) pss_nil)
      (pss_cons (ps_if (pt_cmpR op_ne (pe_callB call_len (by rfl) (z_len T) bb_len (pa_cons (pv 0) pa_nil)) (pe_callB call_len (by rfl) (z_len T) bb_len (pa_cons (pv 1) pa_nil)) (nomark _)) (pss_one (ps_ret pe_bl)) pss_nil)
      (pss_one (ps_ret (pe_callB (cr_all rfl) (by rfl) (z_all T) bb_all (pa_cons (pe_lc (own := [("_law_k", 3)]) (g := gName 3) (tt := tYes) rfl sc__law_same.nd (pi_range1 rfl (z_range T) (pa_cons (pe_callB call_len (by rfl) (z_len T) bb_len (pa_cons (pv 1) pa_nil)) pa_nil)) (blkOk_by (N := N__law_same) (sc := defScope s__law_same) (by decide +kernel)) (fun _ _ _ _ _ => (pg_name (i := 3) sc__law_same.nd rfl (.inl rfl))) (fun _ _ _ _ _ => pts_nil) (fun _ _ _ _ _ => (C8.pe_c ih hr (Nat.le_refl _) rfl (pa_cons (pe_ix (ix_seqK (K := K) rfl) (pv 0) (pv 3) (fun _ _ => rfl)) (pa_cons (pe_ix (ix_seqK (K := K) rfl) (pv 1) (pv 3) (fun _ _ => rfl)) pa_nil))))) pa_nil)))))))))))), ?_⟩
      rcases h with ⟨e, fl⟩ | ⟨a, b, xs, ys, ex, ey, hk, hl, hl2, hi⟩
      · subst e
        cases x with
        | bl v =>
          refine ⟨_, rfl, _, "bool", "bool", rfl, .base (.bl _), by decide, by decide, _, rfl, iteT ⟨_, rfl, _, "bool", "bool", rfl, .base (.bl _), by decide, by decide, _, rfl, iteT ⟨_, rfl, _, rfl, rfl, ?_⟩⟩⟩
          rw [decide_eq_true rfl]
          exact q H (Same.refl H)
        | non =>
          refine ⟨_, rfl, _, "bool", "NoneType", rfl, .base .non, by decide, by decide, _, rfl, iteF ⟨_, rfl, rfl, _, rfl, ?_⟩⟩
          rw [decide_eq_true rfl]
          refine iteT ⟨_, rfl, rfl, ?_⟩
          exact q H (Same.refl H)
        | int i =>
          refine ⟨_, rfl, _, "bool", "int", rfl, .base (.int _), by decide, by decide, _, rfl, iteF ⟨_, rfl, rfl, _, rfl, ?_⟩⟩
          rw [decide_eq_false (show ¬ V.int i = V.non by intro z; cases z)]
          refine iteF ⟨_, rfl, _, "int", "int", rfl, .base (.int _), by decide, by decide, _, rfl, iteT ⟨_, rfl, _, "bool", "int", rfl, .base (.int _), by decide, by decide, _, rfl, iteF ⟨_, rfl, _, "int", "int", rfl, .base (.int _), by decide, by decide, _, rfl, iteF ⟨_, rfl, _, rfl, rfl, ?_⟩⟩⟩⟩
          rw [decide_eq_true rfl]
          exact q H (Same.refl H)
        | str z =>
          refine ⟨_, rfl, _, "bool", "str", rfl, .base (.str _), by decide, by decide, _, rfl, iteF ⟨_, rfl, rfl, _, rfl, ?_⟩⟩
          rw [decide_eq_false (show ¬ V.str z = V.non by intro z; cases z)]
          refine iteF ⟨_, rfl, _, "int", "str", rfl, .base (.str _), by decide, by decide, _, rfl, iteF ⟨_, rfl, _, "str", "str", rfl, .base (.str _), by decide, by decide, _, rfl, iteT ⟨_, rfl, _, "str", "str", rfl, .base (.str _), by decide, by decide, _, rfl, iteT ⟨_, rfl, _, rfl, rfl, ?_⟩⟩⟩⟩
          rw [decide_eq_true rfl]
          exact q H (Same.refl H)
        | byt _ => cases fl
        | flt _ => cases fl
        | ref _ => cases fl
        | ty _ => cases fl
      · subst ex ey
        have sx : SqL K H a xs ∨ SqT K H a xs := by
          rcases hk with ⟨h1, h2⟩ | ⟨h1, h2⟩
          · exact .inl (.inl (.inl h1))
          · exact .inr (.inl (.inl h1))
        have sy : SqL K H b ys ∨ SqT K H b ys := by
          rcases hk with ⟨h1, h2⟩ | ⟨h1, h2⟩
          · exact .inl (.inl (.inl h2))
          · exact .inr (.inl (.inl h2))
        have nn : ¬ V.ref b = V.non := by intro z; cases z
        rcases hk with ⟨h1, h2⟩ | ⟨h1, h2⟩
        · refine ⟨_, rfl, _, "bool", "list", rfl, .base (.lst h2), by decide, by decide, _, rfl, iteF ⟨_, rfl, rfl, _, rfl, ?_⟩⟩
          rw [decide_eq_false nn]
          refine iteF ⟨_, rfl, _, "int", "list", rfl, .base (.lst h2), by decide, by decide, _, rfl, iteF ⟨_, rfl, _, "str", "list", rfl, .base (.lst h2), by decide, by decide, _, rfl, iteF ⟨_, rfl, _, "dict", "list", rfl, .base (.lst h2), by decide, by decide, _, rfl, iteF
            ⟨_, rfl, _, "tuple", "list", rfl, .base (.lst h2), by decide, by decide, _, rfl, iteF (iteF ⟨_, rfl, _, "list", "list", rfl, .base (.lst h2), by decide, by decide, _, rfl, iteT ⟨_, rfl, _, "list", "list", rfl, .base (.lst h1), by decide, by decide, _, rfl, iteF ?_⟩⟩)⟩⟩⟩⟩
          refine ⟨_, rfl, _, _, rfl, lenV_of sx, _, rfl, _, _, rfl, lenV_of sy, rfl, _, rfl, ?_⟩
          refine iteNS (by rw [hl]) ?_
          refine ⟨_, rfl, _, _, rfl, lenV_of sy, _, rfl, by omega, by omega, fun D nD => ?_⟩
          refine lc_range (lo := 0) (n := ys.length) (fun i H1 => Same H H1 ∧ H1 D = some (.lst ((List.replicate i true).map V.bl))) ⟨same_upd nD, upd_same⟩ ?_ ?_
          · rintro i H1 hi1 ⟨s1, d1⟩
            have hx : i < xs.length := by omega
            refine ⟨rfl, yes_i (iteT ⟨_, rfl, _, rfl, rIx_of (v := xs[i]) (sq_same s1 sx) (at_of (j := i) (by omega) (List.getElem?_eq_getElem hx)) ⟨_, rfl, _, rfl, rIx_of (v := ys[i]) (sq_same s1 sy) (at_of (j := i) (by omega) (List.getElem?_eq_getElem hi1)) ⟨_, _, rfl, (hi i _ _ (List.getElem?_eq_getElem hx) (List.getElem?_eq_getElem hi1)).same s1, fun H2 s2 => ⟨_, s2 _ _ d1, ?_, ?_, ?_⟩⟩⟩⟩)⟩
            · rw [List.length_map, List.length_replicate]
              exact small8s (by omega)
            · exact same_put (s1.trans s2) nD
            · rw [upd_same, List.replicate_succ', List.map_append]
              rfl
          · rintro H1 ⟨s1, d1⟩
            refine ⟨D, _, rfl, .inl (.inl d1), ?_⟩
            rw [show (List.replicate ys.length true).all id = true by simp]
            exact q H1 s1
        · refine ⟨_, rfl, _, "bool", "tuple", rfl, .base (.tup h2), by decide, by decide, _, rfl, iteF ⟨_, rfl, rfl, _, rfl, ?_⟩⟩
          rw [decide_eq_false nn]
          refine iteF ⟨_, rfl, _, "int", "tuple", rfl, .base (.tup h2), by decide, by decide, _, rfl, iteF ⟨_, rfl, _, "str", "tuple", rfl, .base (.tup h2), by decide, by decide, _, rfl, iteF ⟨_, rfl, _, "dict", "tuple", rfl, .base (.tup h2), by decide, by decide, _, rfl, iteF
            ⟨_, rfl, _, "tuple", "tuple", rfl, .base (.tup h2), by decide, by decide, _, rfl, iteT ⟨_, rfl, _, "tuple", "tuple", rfl, .base (.tup h1), by decide, by decide, _, rfl, iteF ⟨_, rfl, _, "list", "tuple", rfl, .base (.tup h2), by decide, by decide, _, rfl, iteF (iteF ?_)⟩⟩⟩⟩⟩⟩
          refine ⟨_, rfl, _, _, rfl, lenV_of sx, _, rfl, _, _, rfl, lenV_of sy, rfl, _, rfl, ?_⟩
          refine iteNS (by rw [hl]) ?_
          refine ⟨_, rfl, _, _, rfl, lenV_of sy, _, rfl, by omega, by omega, fun D nD => ?_⟩
          refine lc_range (lo := 0) (n := ys.length) (fun i H1 => Same H H1 ∧ H1 D = some (.lst ((List.replicate i true).map V.bl))) ⟨same_upd nD, upd_same⟩ ?_ ?_
          · rintro i H1 hi1 ⟨s1, d1⟩
            have hx : i < xs.length := by omega
            refine ⟨rfl, yes_i (iteT ⟨_, rfl, _, rfl, rIx_of (v := xs[i]) (sq_same s1 sx) (at_of (j := i) (by omega) (List.getElem?_eq_getElem hx)) ⟨_, rfl, _, rfl, rIx_of (v := ys[i]) (sq_same s1 sy) (at_of (j := i) (by omega) (List.getElem?_eq_getElem hi1)) ⟨_, _, rfl, (hi i _ _ (List.getElem?_eq_getElem hx) (List.getElem?_eq_getElem hi1)).same s1, fun H2 s2 => ⟨_, s2 _ _ d1, ?_, ?_, ?_⟩⟩⟩⟩)⟩
            · rw [List.length_map, List.length_replicate]
              exact small8s (by omega)
            · exact same_put (s1.trans s2) nD
            · rw [upd_same, List.replicate_succ', List.map_append]
              rfl
          · rintro H1 ⟨s1, d1⟩
            refine ⟨D, _, rfl, .inl (.inl d1), ?_⟩
            rw [show (List.replicate ys.length true).all id = true by simp]
            exact q H1 s1
/-- as it is asked by the laws: data at most six deep -/
theorem cal__law_same (T : Tp K mg) : Cal P w K mg base 7 "_law_same" (sp_same 7) := cal_same T 7
end
end Tw

set_option maxHeartbeats 4000000
namespace Tw
open PySem PySem.Spec PyProof.Rows L2
section
variable {prog : Program} {w : World} {A : Around} {E : Value → Shared → Prop} {s : Shared} {K : PySem.W.Frag} {x C L f : Addr} {h₀ : Heap} {m : Str → Option Value} {ox : Obj} {od : Option Obj}
open PySem.W PySem.Calls Builtin in
/-- what truthy's own call of len finds: the answer of __len__, in its bounds -/
theorem len_ownBody {Q : Value → Shared → Prop} (X : K.In s.heap) (I : InstAt s.heap x ox C od) (hs : findIn K (.ref C) "__len__" = some (some (.ref f))) (hf : isFn K (.ref f) = true)
    (h : wpAny (model prog w) A (call (.ref f) [.ref x]) (PySem.W.LenBack Q) E s) : wpAny (model prog w) A (Builtin.«len» ⟨[.ref x], []⟩) (fun fin s' => ∃ r, fin = .done (.ret r) ∧ Q r s') E s := by
  have ask : ∀ {R : Option Value → Shared → Prop}, (∀ n u s', (0 ≤ n ∧ n < 2 ^ 63) → Q (.int n s'.toks) { s' with toks := s'.toks + 1 } → R (some (.int n u)) s') → wpAny (model prog w) A (callSpecial? (.ref x) (Str.ofString "__len__")) R E s := fun {R} k =>
    special_fn X I hs (beq_iff_eq.mp hf) (wpAny_mono h (fun r s' back => by
      cases r with
      | int n u => exact k n u s' back.1 back.2
      | _ => exact False.elim back) fun _ _ y => y)
  unfold Builtin.«len»
  repeat (first | with_reducible refine ask fun n u s' bnd back => ?_ | wp_step)
  rw [if_neg (Int.not_le.mpr bnd.2)]
  repeat wp_step
  exact ⟨_, rfl, back⟩
open PySem.W PySem.Calls Builtin in
theorem truthy_own {Q : Bool → Shared → Prop} (X : K.In s.heap) (I : InstAt s.heap x ox C od) (hb : findIn K (.ref C) "__bool__" = some none) (hs : findIn K (.ref C) "__len__" = some (some (.ref f))) (hf : isFn K (.ref f) = true)
    (h : wpAny (model prog w) A.in1 (call (.ref f) [.ref x]) (PySem.W.LenBack fun v s' => ∃ n t, v = .int n t ∧ Q (n != 0) s') E s) : wpAny (model prog w) A (truthy (.ref x)) Q E s := by
  have counted : ∀ {R : Value → Shared → Prop}, (∀ n t s', Q (n != 0) s' → R (.int n t) s') → wpAny (model prog w) A (runValue (.builtin "len" ⟨[.ref x], []⟩)) R E s := fun {R} k =>
    wpAny_runValue (codeAny_builtin entry_len (by
      rw [Around.under_plainId plain_len]
      refine wpAny_mono (len_ownBody X I hs hf h) ?_ fun _ _ z => z
      rintro _ s' ⟨_, rfl, n, t, rfl, q⟩
      exact k n t s' q))
  have noBool := looks_findIn (M := model prog w) X hb
  have hasLen := looks_findIn (M := model prog w) X hs
  unfold truthy callSpecial? specialOf
  repeat (first | with_reducible refine I.type.here ?_ | with_reducible refine noBool.here ?_ | with_reducible refine hasLen.here ?_ | with_reducible refine counted fun n t s' q => ?_ | assumption | wp_step)
theorem bool_new (l : Addr) : MeetsIn prog w (Builtin.«bool.__new__» ⟨[.type "bool", .ref l], []⟩) (fun A R s => wpAny (model prog w) A.in1 (truthy (.ref l)) (fun b s' => R (.ok (.ret (.bool b))) s') (fun e s' => R (.error e) s') s) :=
  .of_wp fun A R s hs => by
    have f1 := PySem.F.conv_sub_bool
    obtain ⟨hp, g, d, tk, os⟩ := s
    have ht : ∀ {Q : Bool → Shared → Prop}, (∀ b s', R (.ok (.ret (.bool b))) s' → Q b s') → wpAny (model prog w) A.in1 (truthy (.ref l)) Q (fun e s' => R (.error e) s') (Shared.mk hp g d tk os) := fun h => wpAny_mono hs (fun b s' z => h b s' z) fun _ _ z => z
    repeat (any_goals (first | assumption | (with_reducible refine ht fun b s' z => ?_) | wp_step))
    all_goals exact ⟨_, rfl, z⟩
end
section
variable {X : Cx} {k j : Nat} {C : Addr} {sp : Sp}
/-- bool(o) by an own __len__ -/
def rBoolO (C : Addr) (sp : Sp) : List V → Hp → VK → Prop := fun xs H Q => ∃ a dx fs, xs = [.ref a] ∧ H a = some (.ins C dx fs) ∧ sp [.ref a] H (fun v H' => ∃ i : Int, v = .int i ∧ 0 ≤ i ∧ i < 2 ^ 63 ∧ Q (.bl (i != 0)) H') E0
theorem call_boolO (c : Met X.prog X.w X.K X.mg X.base k C "__len__" sp) (nb : NoAttr X.K C "__bool__") (hr : Room j X.A) (hk : k + 3 ≤ j) : CallR X (.type "bool") (rBoolO C sp) := by
  rintro pins s σ H _ us Q I r ⟨a, dx, fs, rfl, here, q⟩
  obtain rfl := Vals.ref1 r
  obtain ⟨f, hs, hf, F⟩ := own0 c
  obtain ⟨_, J0, _⟩ := ins_get I.hok here
  obtain ⟨_, J, _⟩ := J0.look
  have room : Room k X.A.in1.in1.in1 := (hr.mono hk).in1.in1.in1
  refine callType_newIn PySem.F.called_bool PySem.F.newNe_bool (PySem.F.typeCall_bool_1 _) (PySem.F.newCall_bool_1 _) (fun obj => PySem.F.args_object_init_2 obj _) PySem.F.entry_bool_new (bool_new a) ?_
  refine truthy_own I.kIn J nb hs hf (thn (wpAny_call (SlX.run_at F room I.env0.in1.in1.in1 pass0 I r q)) ?_)
  rintro _ s1 ⟨_, H1, I1, rv, i, rfl, low, high, q1⟩
  obtain ⟨_, rfl⟩ := rv
  exact ⟨⟨low, high⟩, i, _, rfl, rfl, .bl (i != 0), H1, I1.tok _, rfl, q1⟩
end
end Tw

set_option maxHeartbeats 4000000
namespace Tw
open PySem PySem.Spec PyProof.Rows L2
theorem wd_flat (l : List Wd) : ∀ r ∈ l.map Wd.row, r.all flatV = true ∧ r.length ≤ 1000 := fun r h => by
  obtain ⟨x, _, rfl⟩ := List.mem_map.mp h
  refine ⟨?_, by show 5 ≤ 1000; decide⟩
  unfold Wd.row
  cases x.la <;> rfl
theorem bd_flat (l : List Bd) : ∀ r ∈ l.map Bd.row, r.all flatV = true ∧ r.length ≤ 1000 := fun r h => by
  obtain ⟨x, _, rfl⟩ := List.mem_map.mp h
  refine ⟨?_, by show 4 ≤ 1000; decide⟩
  unfold Bd.row
  cases x.bot <;> cases x.top <;> rfl
theorem sm_three {H : Hp} {a b : Addr} {x1 x2 x3 y1 y2 y3 : V} {n : Nat} (h1 : H a = some (.lst [x1, x2, x3])) (h2 : H b = some (.lst [y1, y2, y3])) (e1 : Sm n x1 y1 H) (e2 : Sm n x2 y2 H) (e3 : Sm n x3 y3 H) : Sm (n + 1) (.ref a) (.ref b) H := by
  refine sm_lst h1 h2 rfl (by show 3 ≤ 1000; decide) fun i x y hx hy => ?_
  match i, hx, hy with
  | 0, hx, hy =>
    cases hx
    cases hy
    exact e1
  | 1, hx, hy =>
    cases hx
    cases hy
    exact e2
  | 2, hx, hy =>
    cases hx
    cases hy
    exact e3
theorem empty_web : Str.empty ++ ("Web(" : Str) = ("Web(" : Str) := by decide +kernel
section
variable {P : Program} {w : World} {K : PySem.W.Frag} {mg : Str → Option Value} {base : Heap}
def sp_stands (K : PySem.W.Frag) : Sp := fun vs H Q _ => ∃ (p d : Addr) (m : Md), vs = [.ref p, .ref d] ∧ WebAt (CW K) H p m ∧ MdAt H d m ∧ ∀ H', Same H H' → Q (.bl true) H'
theorem cal__law_stands (T : Tp K mg) : Cal P w K mg base 9 "_law_stands" (sp_stands K) := by
  obtain ⟨fd, F⟩ := f__law_stands T
  refine cal_of F (g__law_stands T) (b__law_stands F) sc__law_stands (fun vs H Q E h => ?_) (fun cdv A outer s H vs Q E hr h => ?_)
  · obtain ⟨p, d, m, rfl, _⟩ := h
    rfl
  · obtain ⟨p, d, m, rfl, W, M, q⟩ := h
    have hu := hu_of hr
    have hlen := W.len
    have hlast := W.last
    have hpts := pts_len W
    refine ⟨_, (pss_cons (ps_set (i := 2) sc__law_stands.nd rfl (.inl rfl) (C8.pe_c (cal__law_points T) hr (by decide) rfl (pa_cons (pv 1) pa_nil)))
      (pss_cons (ps_set (i := 3) sc__law_stands.nd rfl (.inl rfl) (pe_lst (pa_cons (pe_fld (pv 0) rfl) (pa_cons (C8.pe_mt0 (met_Web_moments T) hr (by decide) (pv 0)) (pa_cons (C8.pe_mt0 (met_Web_spans T) hr (by decide) (pv 0)) pa_nil)))))
      (pss_cons (ps_if (pt_not (pt_val (C8.pe_c (cal__law_same T) hr (by decide) rfl (pa_cons (pv 3) (pa_cons (pe_lst (pa_cons (pe_dget hu (pv 1) pe_str (fun _ _ => rfl)) (pa_cons (pe_dget hu (pv 1) pe_str (fun _ _ => rfl)) (pa_cons (pe_dget hu (pv 1) pe_str (fun _ _ => rfl)) pa_nil)))) pa_nil))))) (pss_one (ps_ret pe_bl)) pss_nil)
      (pss_cons (ps_set (i := 3) sc__law_stands.nd rfl (.inl rfl) (pe_lst (pa_cons (C8.pe_mt0 (met_Web_ties T) hr (by decide) (pv 0)) (pa_cons (C8.pe_mt0 (met_Web_points T) hr (by decide) (pv 0)) (pa_cons (pe_callB (call_lenO (met_Web_UlenU T) hr (by decide)) (by rfl) (z_len T) bb_len (pa_cons (pv 0) pa_nil)) pa_nil)))))
      (pss_cons (ps_if (pt_not (pt_val (C8.pe_c (cal__law_same T) hr (by decide) rfl (pa_cons (pv 3) (pa_cons (pe_lst (pa_cons (pe_dget hu (pv 1) pe_str (fun _ _ => rfl)) (pa_cons (pv 2) (pa_cons (pe_callB call_len_seq (by rfl) (z_len T) bb_len (pa_cons (pv 2) pa_nil)) pa_nil)))) pa_nil))))) (pss_one (ps_ret pe_bl)) pss_nil)
      (pss_cons (ps_set (i := 4) sc__law_stands.nd rfl (.inl rfl) (pe_op op_add_str (pe_op op_add_str pe_str (pe_callTy call_str_int (by rfl) (z_str T) bb_str (pa_cons (pe_callB call_len_seq (by rfl) (z_len T) bb_len (pa_cons (pv 2) pa_nil)) pa_nil))) pe_str))
      (pss_cons (ps_set (i := 4) sc__law_stands.nd rfl (.inl rfl) (pe_op op_add_str (pe_op op_add_str (pe_op op_add_str (pe_op op_add_str (pv 4) (pe_callTy call_str_int (by rfl) (z_str T) bb_str (pa_cons (pe_callB call_len_seq (by rfl) (z_len T) bb_len (pa_cons (pe_dget hu (pv 1) pe_str (fun _ _ => rfl)) pa_nil)) pa_nil))) pe_str) (pe_callTy call_str_int (by rfl) (z_str T) bb_str (pa_cons (pe_dget hu (pv 1) pe_str (fun _ _ => rfl)) pa_nil))) pe_str))
      (pss_one (ps_ret (C8.pe_c (cal__law_same T) hr (by decide) rfl (pa_cons (pe_callB (call_reprO (met_Web_UreprU T) hr (by decide)) (by rfl) (z_repr T) bb_repr (pa_cons (pv 0) pa_nil)) (pa_cons (pv 4) pa_nil)))))))))))), ?_⟩
    refine ⟨_, rfl, d, m, rfl, M, by omega, by omega, fun pl H1 s1 npl hpl => ?_⟩
    have W1 := W.same s1
    obtain ⟨dx, a, b, c, ws, bs, h1, h2, h3, h4, h5, h6⟩ := W1.ex
    -- found = [web.by, web.moments(), web.spans()]
    refine ⟨_, rfl, p, CW K, dx, _, _, rfl, h1, cl_Web T, na_by T, wf_by, _, rfl, p, dx, _, rfl, h1, wf_no (by decide +kernel), p, m, rfl, W1, fun k1 n1 => ?_⟩
    have t1 := same_upd (o := .lst (m.own.map V.str)) n1
    have W2 := W1.same t1
    refine ⟨_, rfl, p, dx, _, rfl, t1 _ _ h1, wf_no (by decide +kernel), p, m, rfl, W2, fun ws2 k2 r2 n2 => ⟨by show 3 ≤ sizeLine; decide, fun l n3 => ?_⟩⟩
    have t2 := same_upd (o := .lst ws2) n2
    have t3 := same_upd (o := .lst [.int m.last, .ref k1, .ref k2]) n3
    have e1 := t3 _ _ (t2 _ _ (upd_same (H := H1) (a := k1) (o := .lst (m.own.map V.str))))
    have e2 := t3 _ _ (upd_same (H := upd H1 k1 (.lst (m.own.map V.str))) (a := k2) (o := .lst ws2))
    have sA := ((s1.trans t1).trans t2).trans t3
    obtain ⟨o, u, v, us, vs, g1, g2, g3, g4, g5, g6, g7⟩ := (M.same sA).ex
    -- [m['by'], m['own'], m['winds']]
    refine ⟨_, rfl, _, rfl, d, _, rfl, mk_by g1, _, rfl, d, _, rfl, mk_own g1, _, rfl, d, _, rfl, mk_wd g1, (by show 3 ≤ sizeLine; decide), fun l2 n4 => ?_⟩
    have t4 := same_upd (o := .lst [.int m.last, .ref o, .ref u]) n4
    refine ⟨_, _, rfl, sm_three (t4 _ _ upd_same) upd_same (Sm.flat rfl) (sm_strs (t4 _ _ e1) (t4 _ _ g2) (by omega)) (sm_rows (t4 _ _ e2) (t4 _ _ g3) (r2.keep (Kt.of (((t2).trans t3).trans t4))) (g4.keep (Kt.of t4)) (by rw [List.length_map]; omega) (wd_flat _)), fun H5 s5 => ⟨_, rfl, iteF ?_⟩⟩
    -- found = [web.ties(), web.points(), len(web)]
    have sB := (sA.trans t4).trans s5
    have W5 := W.same sB
    obtain ⟨dx5, a5, b5, c5, ws5, bs5, f1, f2, f3, f4, f5, f6⟩ := W5.ex
    refine ⟨_, rfl, p, dx5, _, rfl, f1, wf_no (by decide +kernel), p, m, rfl, W5, fun bs6 k5 r6 n5 => ?_⟩
    have t5 := same_upd (o := .lst bs6) n5
    have W6 := W5.same t5
    refine ⟨_, rfl, p, dx5, _, rfl, t5 _ _ f1, wf_no (by decide +kernel), p, m, rfl, W6, fun k6 H6 s6 n6 e6 => ?_⟩
    have W7 := W6.same s6
    refine ⟨_, rfl, p, dx5, _, rfl, s6 _ _ (t5 _ _ f1), p, m, rfl, W7, fun H7 s7 => ⟨_, rfl, by omega, by omega, by show 3 ≤ sizeLine; decide, fun l5 n7 => ?_⟩⟩
    have t7 := same_upd (o := .lst [.ref k5, .ref k6, .int (m.pts.length : Nat)]) n7
    have sC := (((t5.trans s6).trans s7).trans t7)
    have ek5 := t7 _ _ (s7 _ _ (s6 _ _ (upd_same (H := H5) (a := k5) (o := .lst bs6))))
    have ek6 := t7 _ _ (s7 _ _ e6)
    have sD := sB.trans sC
    obtain ⟨o8, u8, v8, us8, vs8, j1, j2, j3, j4, j5, j6, j7⟩ := (M.same sD).ex
    have epl := sC _ _ (s5 _ _ (t4 _ _ (t3 _ _ (t2 _ _ (t1 _ _ hpl)))))
    refine ⟨_, rfl, _, rfl, d, _, rfl, mk_bd j1, _, rfl, _, rfl, pl, _, rfl, .inl (.inl (.inl epl)), (by show 3 ≤ sizeLine; decide), fun l6 n8 => ?_⟩
    have t8 := same_upd (o := .lst [.ref v8, .ref pl, .int ((m.pts.map V.str).length : Nat)]) n8
    refine ⟨_, _, rfl, sm_three (t8 _ _ upd_same) upd_same (sm_rows (t8 _ _ ek5) (t8 _ _ j5) (r6.keep (Kt.of (sC.trans t8))) (j6.keep (Kt.of t8)) (by rw [List.length_map]; omega) (bd_flat _)) (sm_strs (t8 _ _ ek6) (t8 _ _ epl) (by omega)) (by rw [List.length_map]; exact Sm.flat rfl), fun H9 s9 => ⟨_, rfl, iteF ?_⟩⟩
    -- the text
    have sE := (sD.trans t8).trans s9
    have epl9 := s9 _ _ (t8 _ _ epl)
    have W9 := W.same sE
    obtain ⟨dx9, a9, b9, c9, ws9, bs9, w1, w2, w3, w4, w5, w6⟩ := W9.ex
    obtain ⟨o9, u9, v9, us9, vs9, i1, i2, i3, i4, i5, i6, i7⟩ := (M.same sE).ex
    have hvs : vs9.length = m.bd.length := by rw [i6.len, List.length_map]
    have l0 : ("Web(" : Str).length ≤ 4 := by decide +kernel
    have l1 := num_le (i := (m.pts.length : Nat)) (by omega) (by omega)
    have l2 : (" points, " : Str).length ≤ 9 := by decide +kernel
    have l3 := num_le (i := (m.bd.length : Nat)) (by omega) (by omega)
    have l4 : (" ties, by " : Str).length ≤ 10 := by decide +kernel
    have l5 := num_le (i := m.last) (by omega) (by omega)
    have l6 : (")" : Str).length ≤ 1 := by decide +kernel
    have fits : ∀ {x y : Str} {i j : Nat}, x.length ≤ i → y.length ≤ j → i + j ≤ 1000 → x.length + y.length ≤ sizeLine := fun h1 h2 h3 => Nat.le_of_lt (small1000 (by omega))
    have m1 := app_le l0 l1
    have m2 := app_le m1 l2
    have m3 := app_le m2 l3
    have m4 := app_le m3 l4
    have m5 := app_le m4 l5
    refine ⟨_, rfl, pl, _, rfl, .inl (.inl (.inl epl9)), _, rfl, ?_, ?_⟩
    · rw [List.length_map]
      exact num_log (by omega) (by omega)
    · rw [List.length_map]
      refine ⟨_, _, rfl, rfl, fits l0 l1 (by decide), _, _, rfl, rfl, fits m1 l2 (by decide), ?_⟩
      refine ⟨_, rfl, _, rfl, d, _, rfl, mk_bd i1, v9, _, rfl, .inl (.inl (.inl i5)), _, rfl, by rw [hvs]; exact num_log (by omega) (by omega), ?_⟩
      rw [hvs]
      refine ⟨_, _, rfl, rfl, fits m2 l3 (by decide), _, _, rfl, rfl, fits m3 l4 (by decide), _, rfl, d, _, rfl, mk_by i1, _, rfl, num_log (by omega) (by omega), _, _, rfl, rfl, fits m4 l5 (by decide), _, _, rfl, rfl, fits m5 l6 (by decide), ?_⟩
      refine ⟨_, rfl, p, dx9, _, rfl, w1, p, m, rfl, W9, fun H10 s10 => ⟨_, rfl, _, rfl, _, _, rfl, sm_eq ?_ rfl, fun H11 s11 => q H11 ((sE.trans s10).trans s11)⟩⟩
      unfold webText
      rw [empty_web]
      rfl
end
end Tw

set_option maxHeartbeats 4000000
namespace Tw
open PySem PySem.Spec PyProof.Rows L2
open LamX (ExtN Tabs)
theorem WebAt.ext {C : Addr} {H H' : Hp} {p : Addr} {m : Md} (W : WebAt C H p m) (e : ExtN H H') : WebAt C H' p m := W.keep (fun dx fs h => e _ _ h fun ps z => by cases z) (fun b xs h => e _ _ h fun ps z => by cases z)
theorem Flow.ext {H H' : Hp} {f c : Addr} (h : Flow H f c) (e : ExtN H H') : Flow H' f c := by
  obtain ⟨ns, i, r, st, e1, e2, e3⟩ := h.ex
  exact ⟨ns, i, r, st, e _ _ e1 (fun ps z => by cases z), e _ _ e2 (fun ps z => by cases z), e3⟩
theorem MdAt.ext {H H' : Hp} {d : Addr} {m : Md} (M : MdAt H d m) (e : ExtN H H') : MdAt H' d m := by
  obtain ⟨o, w, b, ws, bs, h1, h2, h3, h4, h5, h6, h7⟩ := M.ex
  have k : Kt H H' := fun b xs h => e _ _ h fun ps z => by cases z
  exact ⟨o, w, b, ws, bs, e _ _ h1 (fun ps z => by cases z), e _ _ h2 (fun ps z => by cases z), e _ _ h3 (fun ps z => by cases z), h4.keep k, e _ _ h5 (fun ps z => by cases z), h6.keep k, h7⟩
theorem tabs_same {T : List (Addr × Str)} {H H' : Hp} (h : Tabs T H) (s : Same H H') : Tabs T H' := fun p hp => (h p hp).ext s
theorem tabs_sb {T : List (Addr × Str)} {H H' : Hp} {f : Addr} {xs : List V} (h : Tabs T H) (s : Sb f H H') (hf : H f = some (.lst xs)) : Tabs T H' := fun p hp => by
  obtain ⟨ps, h1, h2, h3⟩ := h p hp
  refine ⟨ps, s _ _ h1 (ne_of h1 hf (by intro z; cases z)), h2, fun pos cv hc => ?_⟩
  obtain ⟨c, e1, e2⟩ := h3 pos cv hc
  exact ⟨c, e1, s _ _ e2 (ne_of e2 hf (by intro z; cases z))⟩
theorem kt_lst {H : Hp} {D : Addr} {xs ys : List V} (h : H D = some (.lst xs)) : Kt H (upd H D (.lst ys)) := Kt.upd fun zs z => by
  rw [h] at z
  cases z
theorem pts_nm {m : Md} (ok : MdOk m) {z : Str} (h : z ∈ m.pts) : Nm z := by
  rcases List.mem_cons.mp h with h | h
  · rw [h]
    exact nmB_ok.mp (by decide +kernel)
  · exact (pool_nm (ok.pool z h)).1
theorem nm_len {z : Str} (h : Nm z) : z.length ≤ 1000 := Nat.le_trans h.2.1 (by decide)
theorem sm_two {H : Hp} {a b : Addr} {x y : V} {n : Nat} (h1 : H a = some (.tup [x, y])) (h2 : H b = some (.tup [x, y])) (hx : flatV x = true) (hy : flatV y = true) : Sm (n + 2) (.ref a) (.ref b) H :=
  sm_tup h1 h2 rfl (by show 2 ≤ 1000; decide) (sm_flats (by show (flatV x && (flatV y && true)) = true; rw [hx, hy]; rfl))
theorem sm_pair {H : Hp} {a b : Addr} {x1 x2 y1 y2 : V} {n : Nat} (h1 : H a = some (.lst [x1, x2])) (h2 : H b = some (.lst [y1, y2])) (e1 : Sm n x1 y1 H) (e2 : Sm n x2 y2 H) : Sm (n + 1) (.ref a) (.ref b) H := by
  refine sm_lst h1 h2 rfl (by show 2 ≤ 1000; decide) fun i x y hx hy => ?_
  match i, hx, hy with
  | 0, hx, hy =>
    cases hx
    cases hy
    exact e1
  | 1, hx, hy =>
    cases hx
    cases hy
    exact e2
  | i + 2, hx, hy => cases hx
abbrev qlam : Str := ("law" : Str) ++ ".<locals>." ++ "<lambda>"
theorem tabs_new {P : Addr} {q : Str} {H : Hp} (h : H P = some (.tbl #[])) : Tabs [(P, q)] H := fun p hp => by
  have e := List.mem_singleton.mp hp
  subst e
  exact ⟨#[], h, True.intro, fun pos cv hc => nomatch hc⟩
theorem free_of {l : List Str} (h : (l.all fun z => nmB z && (!pool.contains z && !(z == "start"))) = true) {m : Md} (ok : MdOk m) {z : Str} (hz : z ∈ l) : Nm z ∧ ¬ z ∈ m.pts := by
  have e := List.all_eq_true.mp h z hz
  simp only [Bool.and_eq_true, Bool.not_eq_true', beq_eq_false_iff_ne, ne_eq] at e
  obtain ⟨e1, e2, e3⟩ := e
  refine ⟨nmB_ok.mp e1, fun hm => ?_⟩
  rcases List.mem_cons.mp hm with hm | hm
  · exact e3 hm
  · have := List.contains_iff_mem.mpr (ok.pool z hm)
    rw [e2] at this
    cases this
theorem MdX.addO {H : Hp} {d o w b : Addr} {m : Md} {z : Str} (M : MdX H d o w b m) : MdX (upd H o (.lst (m.own.map V.str ++ [.str z]))) d o w b (m.addM z) := by
  obtain ⟨ws, h1, h2⟩ := M.wd
  obtain ⟨bs, h3, h4⟩ := M.bd
  have k := kt_lst (ys := m.own.map V.str ++ [.str z]) M.own
  refine ⟨by rw [upd_ne (ne_of M.dk M.own (by intro z; cases z))]; exact M.dk, ?_, ⟨ws, by rw [upd_ne M.now.symm]; exact h1, h2.keep k⟩, ⟨bs, by rw [upd_ne M.nob.symm]; exact h3, h4.keep k⟩, M.now, M.nob, M.nwb⟩
  rw [upd_same]
  show _ = some (HO.lst ((m.own ++ [z]).map V.str))
  rw [List.map_append]
  rfl
theorem gone_out {m : Md} (ok : MdOk m) : ¬ ("gone" : Str) ∈ m.pts := fun h => by
  rcases List.mem_cons.mp h with h | h
  · exact absurd h (by decide +kernel)
  · exact absurd (ok.pool _ h) (by decide +kernel)
theorem none_out {m : Md} (ok : MdOk m) : ¬ ("" : Str) ∈ m.pts := fun h => absurd (pts_nm ok h) fun n => absurd (nmB_ok.mpr n) (by decide +kernel)
theorem mk_putWd {l : Int} {o w b w2 : Addr} : putK (mk l o w b) kWd (.ref w2) = mk l o w2 b := by
  have n6 : ¬ kBd = kWd := fun e => k6 e.symm
  unfold putK mk
  rw [if_pos (by rw [List.any_cons, List.any_cons, List.any_cons, decide_eq_true (rfl : kWd = kWd)]; simp)]
  simp only [List.map_cons, List.map_nil, if_neg k2, if_neg k4, if_neg n6, if_true]
/-- what stands all along: the flow, the model, the web, the table of the law's code -/
structure All (K : PySem.W.Frag) (f c d p Pt : Addr) (m : Md) (H : Hp) : Prop where
  fl : Flow H f c
  md : MdAt H d m
  web : WebAt (CW K) H p m
  tab : Tabs [(Pt, qlam)] H
theorem All.same {K : PySem.W.Frag} {f c d p Pt : Addr} {m : Md} {H H' : Hp} (A : All K f c d p Pt m H) (s : Same H H') : All K f c d p Pt m H' := ⟨A.fl.same s, A.md.same s, A.web.same s, tabs_same A.tab s⟩
theorem All.ext {K : PySem.W.Frag} {f c d p Pt : Addr} {m : Md} {H H' : Hp} (A : All K f c d p Pt m H) (e : ExtN H H') (t : Tabs [(Pt, qlam)] H') : All K f c d p Pt m H' := ⟨A.fl.ext e, A.md.ext e, A.web.ext e, t⟩
theorem All.sb {K : PySem.W.Frag} {f c d p Pt : Addr} {m : Md} {H H' : Hp} (A : All K f c d p Pt m H) (s : Sb f H H') (F : Flow H' f c) : All K f c d p Pt m H' := by
  obtain ⟨xs, hf⟩ := A.fl.lst
  exact ⟨F, A.md.sb A.fl s, A.web.sb s hf, tabs_sb A.tab s hf⟩
theorem kt_ext {H H' : Hp} (e : ExtN H H') : Kt H H' := fun b xs h => e _ _ h fun ps z => by cases z
theorem nm_ok {z : Str} (h : Nm z) : PyData.canLay0 (.str z) = true := by
  show z.cps.all (fun c => decide (c < 0x110000)) = true
  rw [Array.all_eq_true']
  intro c hc
  have h1 := h.2.2 c (Array.mem_toList_iff.mpr hc)
  have h2 : (letters.cps.toList.all fun c => decide (c < 0x110000)) = true := by decide +kernel
  exact List.all_eq_true.mp h2 c h1
end Tw

set_option maxHeartbeats 4000000
namespace Tw
open PySem PySem.Spec PyProof.Rows L2
section
variable {P : Program} {w : World} {K : PySem.W.Frag} {mg : Str → Option Value} {base : Heap}
def sp_copy : Sp := fun vs H Q _ => ∃ (d : Addr) (m : Md), vs = [.ref d] ∧ MdAt H d m ∧ ∀ (d' o' w' b' : Addr) (H' : Hp), Same H H' → H d' = none → H o' = none → H w' = none → H b' = none → MdX H' d' o' w' b' m → Q (.ref d') H'
theorem cal__law_copy (T : Tp K mg) : Cal P w K mg base 2 "_law_copy" sp_copy := by
  obtain ⟨fd, F⟩ := f__law_copy T
  refine cal_of F (g__law_copy T) (b__law_copy F) sc__law_copy (fun vs H Q E h => ?_) (fun cdv A outer s H vs Q E hr h => ?_)
  · obtain ⟨d, m, rfl, _⟩ := h
    rfl
  · obtain ⟨d, m, rfl, M, q⟩ := h
    have hu := hu_of hr
    obtain ⟨o, u, b, ws, bs, h1, h2, h3, h4, h5, h6, h7⟩ := M.ex
    refine ⟨_, (pss_one (ps_ret (pe_disp (pps_cons pe_str (pe_dget hu (pv 0) pe_str (fun _ _ => rfl)) (pps_cons pe_str (pe_callTy call_list_of (by rfl) (z_list T) bb_list (pa_cons (pe_dget hu (pv 0) pe_str (fun _ _ => rfl)) pa_nil)) (pps_cons pe_str (pe_callTy call_list_of (by rfl) (z_list T) bb_list (pa_cons (pe_dget hu (pv 0) pe_str (fun _ _ => rfl)) pa_nil)) (pps_cons pe_str (pe_callTy call_list_of (by rfl) (z_list T) bb_list (pa_cons (pe_dget hu (pv 0) pe_str (fun _ _ => rfl)) pa_nil)) pps_nil)))) (by rfl) (by rfl) (fun z => by cases z) (by decide)))), ?_⟩
    refine fun p np => ?_
    have s0 := same_upd (o := .dK []) np
    refine ⟨_, rfl, d, _, rfl, mk_by (s0 _ _ h1), _, rfl, d, _, rfl, mk_own (s0 _ _ h1), o, _, rfl, .inl (.inl (.inl (s0 _ _ h2))), fun o' no => ?_⟩
    have s1 := s0.trans (same_upd (o := .lst (m.own.map V.str)) no)
    refine ⟨_, rfl, d, _, rfl, mk_wd (s1 _ _ h1), u, _, rfl, .inl (.inl (.inl (s1 _ _ h3))), fun u' nu => ?_⟩
    have s2 := s1.trans (same_upd (o := .lst ws) nu)
    refine ⟨_, rfl, d, _, rfl, mk_bd (s2 _ _ h1), b, _, rfl, .inl (.inl (.inl (s2 _ _ h5))), fun b' nb => ?_⟩
    have sa := same_upd (o := .lst (m.own.map V.str)) no
    have sb := same_upd (o := .lst ws) nu
    have sc := same_upd (o := .lst bs) nb
    have s3 := s2.trans sc
    have ep := sc _ _ (sb _ _ (sa _ _ (upd_same (H := H) (a := p) (o := .dK []))))
    have eo := sc _ _ (sb _ _ (upd_same (H := upd H p (.dK [])) (a := o') (o := .lst (m.own.map V.str))))
    have eu := sc _ _ (upd_same (H := upd (upd H p (.dK [])) o' (.lst (m.own.map V.str))) (a := u') (o := .lst ws))
    have eb := upd_same (H := upd (upd (upd H p (.dK [])) o' (.lst (m.own.map V.str))) u' (.lst ws)) (a := b') (o := .lst bs)
    have nop : o' ≠ p := (ne_of ep eo (by intro z; cases z)).symm
    have nup : u' ≠ p := (ne_of ep eu (by intro z; cases z)).symm
    have nbp : b' ≠ p := (ne_of ep eb (by intro z; cases z)).symm
    have nou : o' ≠ u' := ne_of_none upd_same nu
    have nob : o' ≠ b' := ne_of_none (sb _ _ upd_same) nb
    have nub : u' ≠ b' := ne_of_none upd_same nb
    refine ⟨ep, [(kBy, .int m.last), (kOwn, .ref o'), (kWd, .ref u'), (kBd, .ref b')], rfl, (by show 4 ≤ 15; decide), ?_⟩
    rw [mk_merge]
    have sF : Same H (upd (upd (upd (upd (upd H p (.dK [])) o' (.lst (m.own.map V.str))) u' (.lst ws)) b' (.lst bs)) p (.dK (mk m.last o' u' b'))) := same_put s3 np
    exact q p o' u' b' _ sF np (s0.free no) (s1.free nu) (s2.free nb) ⟨upd_same, by rw [upd_ne nop]; exact eo, ⟨ws, by rw [upd_ne nup]; exact eu, h4.keep (Kt.of sF)⟩, ⟨bs, by rw [upd_ne nbp]; exact eb, h6.keep (Kt.of sF)⟩, nou, nob, nub⟩
end
end Tw

set_option maxHeartbeats 4000000
namespace Tw
open PySem PySem.Spec PyProof.Rows L2
/-! pictures with one thing other -/
def Md.st (m : Md) (i : Nat) (y : Bd) : Md := { m with bd := m.bd.set i y }
def Md.sw (m : Md) (i : Nat) (y : Wd) : Md := { m with wd := m.wd.set i y }
def Md.rot (m : Md) : Md := { m with own := m.own.drop 1 ++ m.own.take 1 }
theorem set_map {α β : Type} {f : α → β} {y x : α} : ∀ {l : List α} {i : Nat}, l[i]? = some x → f y = f x → (l.set i y).map f = l.map f
  | [], _, h, _ => nomatch h
  | a :: l, 0, h, e => by
    cases h
    show f y :: l.map f = f x :: l.map f
    rw [e]
  | a :: l, i + 1, h, e => by
    show f a :: (l.set i y).map f = f a :: l.map f
    rw [set_map (l := l) (i := i) h e]
theorem ok_by {m : Md} {l : Int} (ok : MdOk m) (h : 1 ≤ l ∧ l ≤ 1000) : MdOk (m.wby l) := ⟨h, ok.nd, ok.pool, ok.wd, ok.bd, ok.len⟩
theorem rot_perm (l : List Str) : (l.drop 1 ++ l.take 1).Perm l := (List.perm_append_comm).trans (by rw [List.take_append_drop])
theorem ok_rot {m : Md} (ok : MdOk m) : MdOk m.rot := by
  have pr := rot_perm m.own
  have pe : (m.rot.own ++ m.rot.wd.map (·.en)).Perm (m.own ++ m.wd.map (·.en)) := pr.append_right _
  have pp : ∀ z, z ∈ m.rot.pts ↔ z ∈ m.pts := fun z => (pe.cons ("start" : Str)).mem_iff
  refine ⟨ok.last, (pe.nodup_iff).2 ok.nd, fun z h => ok.pool z ((pe.mem_iff).1 h), fun x h => ?_, fun x h => ?_, ?_⟩
  · have g := ok.wd x h
    exact ⟨g.bg.imp id (pr.mem_iff).2, g.lo, g.hi, g.top, g.la⟩
  · have g := ok.bd x h
    exact ⟨(pp _).2 g.one, (pp _).2 g.oth, g.ne, g.b⟩
  · have := ok.len
    have e : m.rot.own.length = m.own.length := pr.length_eq
    exact ⟨by rw [e]; exact this.1, this.2⟩
theorem ok_sw {m : Md} {i : Nat} {x y : Wd} (ok : MdOk m) (ex : m.wd[i]? = some x) (en : y.en = x.en) (h : WdOk m.own y) : MdOk (m.sw i y) := by
  have e : (m.wd.set i y).map (·.en) = m.wd.map (·.en) := set_map (f := Wd.en) ex en
  have ep : (m.sw i y).pts = m.pts := by
    show ("start" : Str) :: (m.own ++ (m.wd.set i y).map (·.en)) = _
    rw [e]
    rfl
  refine ⟨ok.last, ?_, ?_, fun z hz => ?_, fun z hz => ?_, ?_⟩
  · show (m.own ++ (m.wd.set i y).map (·.en)).Nodup
    rw [e]
    exact ok.nd
  · show ∀ z ∈ m.own ++ (m.wd.set i y).map (·.en), z ∈ pool
    rw [e]
    exact ok.pool
  · rcases List.mem_or_eq_of_mem_set hz with g | rfl
    · exact ok.wd z g
    · exact h
  · rw [ep]
    exact ok.bd z hz
  · have := ok.len
    exact ⟨this.1, by show (m.wd.set i y).length ≤ 4; rw [List.length_set]; exact this.2.1, this.2.2⟩
theorem ok_st {m : Md} {i : Nat} {y : Bd} (ok : MdOk m) (h : BdOk m.pts y) : MdOk (m.st i y) := by
  refine ⟨ok.last, ok.nd, ok.pool, ok.wd, fun z hz => ?_, ?_⟩
  · rcases List.mem_or_eq_of_mem_set hz with g | rfl
    · exact ok.bd z g
    · exact h
  · have := ok.len
    exact ⟨this.1, this.2.1, by show (m.bd.set i y).length ≤ 40; rw [List.length_set]; exact this.2.2⟩
theorem ok_more {m : Md} {y : Bd} (ok : MdOk m) (h : BdOk m.pts y) (few : m.bd.length < 40) : MdOk (m.addT y) := by
  refine ⟨ok.last, ok.nd, ok.pool, ok.wd, fun z hz => ?_, ?_⟩
  · rcases List.mem_append.1 hz with g | g
    · exact ok.bd z g
    · rw [List.mem_singleton.1 g]
      exact h
  · have := ok.len
    exact ⟨this.1, this.2.1, by show (m.bd ++ [y]).length ≤ 40; rw [List.length_append]; exact few⟩
theorem ne_by {m : Md} : m ≠ m.wby (m.last + 1) := fun e => by
  have := congrArg Md.last e
  have : m.last = m.last + 1 := this
  omega
theorem ne_rot {m : Md} (ok : MdOk m) (h : 2 ≤ m.own.length) : m ≠ m.rot := fun e => by
  have e1 : m.own = m.own.drop 1 ++ m.own.take 1 := congrArg Md.own e
  have nd := (List.nodup_append.1 ok.nd).1
  cases hm : m.own with
  | nil => rw [hm] at h; cases h
  | cons a r =>
    cases r with
    | nil => rw [hm] at h; exact absurd h (by show ¬ 2 ≤ 1; decide)
    | cons b r =>
      rw [hm] at e1 nd
      have e2 : a :: b :: r = b :: r ++ [a] := e1
      have : a = b := by
        rw [List.cons_append] at e2
        exact (List.cons.inj e2).1
      rw [this] at nd
      exact (List.nodup_cons.1 nd).1 List.mem_cons_self
theorem ne_set {α : Type} {l : List α} {i : Nat} {x y : α} (ex : l[i]? = some x) (ne : x ≠ y) : l ≠ l.set i y := fun e => by
  have hi := (List.getElem?_eq_some_iff.1 ex).1
  have h : (l.set i y)[i]? = some y := by rw [List.getElem?_set_self hi]
  rw [← e, ex] at h
  exact ne (Option.some.inj h)
theorem ne_sw {m : Md} {i : Nat} {x y : Wd} (ex : m.wd[i]? = some x) (ne : x ≠ y) : m ≠ m.sw i y := fun e => ne_set ex ne (congrArg Md.wd e)
theorem ne_st {m : Md} {i : Nat} {x y : Bd} (ex : m.bd[i]? = some x) (ne : x ≠ y) : m ≠ m.st i y := fun e => ne_set ex ne (congrArg Md.bd e)
theorem ne_more {m : Md} {y : Bd} : m ≠ m.addT y := fun e => by
  have := congrArg List.length (congrArg Md.bd e)
  have : m.bd.length = (m.bd ++ [y]).length := this
  rw [List.length_append] at this
  have : m.bd.length = m.bd.length + 1 := this
  omega
theorem laid_of {m : Md} (ok : MdOk m) : Laid m := by
  have nm : ∀ z ∈ m.pts, rowV (.str z) = true := fun z h => nm_ok (pts_nm ok h)
  refine ⟨?_, fun r hr => ?_, fun r hr => ?_⟩
  · rw [List.all_eq_true]
    intro v hv
    obtain ⟨z, hz, rfl⟩ := List.mem_map.1 hv
    exact nm z (List.mem_cons_of_mem _ (List.mem_append_left _ hz))
  · obtain ⟨x, hx, rfl⟩ := List.mem_map.1 hr
    have h := ok.wd x hx
    have h1 := nm x.en (List.mem_cons_of_mem _ (List.mem_append_right _ (List.mem_map.2 ⟨x, hx, rfl⟩)))
    have h2 := nm x.bg (by
      rcases h.bg with e | e
      · rw [e]
        exact List.mem_cons_self
      · exact List.mem_cons_of_mem _ (List.mem_append_left _ e))
    show (rowV (.str x.en) && (rowV (.str x.bg) && (true && (true && (rowV (oV x.la) && true))))) = true
    rw [h1, h2]
    cases x.la <;> rfl
  · obtain ⟨x, hx, rfl⟩ := List.mem_map.1 hr
    have h := ok.bd x hx
    show (rowV (.str x.one) && (rowV (.str x.oth) && (rowV (oV x.bot) && (rowV (oV x.top) && true)))) = true
    rw [nm x.one h.one, nm x.oth h.oth]
    cases x.bot <;> cases x.top <;> rfl
theorem rows_put {H : Hp} : ∀ {xs : List V} {rs : List (List V)} (i : Nat) {t : Addr} {r : List V}, Rows H xs rs → H t = some (.tup r) → Rows H (xs.set i (.ref t)) (rs.set i r)
  | _, _, 0, _, _, .nil, _ => .nil
  | _, _, _ + 1, _, _, .nil, _ => .nil
  | _, _, 0, t, _, .cons _ q, h => .cons ⟨t, rfl, h⟩ q
  | _, _, i + 1, _, _, .cons p q, h => .cons p (rows_put i q h)
theorem MdX.setB {H : Hp} {d o w b : Addr} {m : Md} {bs : List V} {i : Nat} {t : Addr} {y : Bd} (M : MdX H d o w b m) (hb : H b = some (.lst bs)) (ht : H t = some (.tup y.row)) : MdX (upd H b (.lst (bs.set i (.ref t)))) d o w b (m.st i y) := by
  obtain ⟨ws, w1, w2⟩ := M.wd
  obtain ⟨bs', b1, b2⟩ := M.bd
  rw [hb] at b1
  cases b1
  have kk : Kt H (upd H b (.lst (bs.set i (.ref t)))) := Kt.upd fun ys h => by rw [hb] at h; cases h
  refine ⟨?_, ?_, ⟨ws, ?_, w2.keep kk⟩, ⟨_, upd_same, ?_⟩, M.now, M.nob, M.nwb⟩
  · rw [upd_ne (ne_of M.dk hb (fun z => nomatch z))]
    exact M.dk
  · rw [upd_ne M.nob]
    exact M.own
  · rw [upd_ne M.nwb]
    exact w1
  · show Rows _ _ ((m.bd.set i y).map Bd.row)
    rw [List.map_set]
    exact (rows_put i b2 ht).keep kk
theorem MdX.setW {H : Hp} {d o w b : Addr} {m : Md} {ws : List V} {i : Nat} {t : Addr} {y : Wd} (M : MdX H d o w b m) (hw : H w = some (.lst ws)) (ht : H t = some (.tup y.row)) : MdX (upd H w (.lst (ws.set i (.ref t)))) d o w b (m.sw i y) := by
  obtain ⟨ws', w1, w2⟩ := M.wd
  obtain ⟨bs, b1, b2⟩ := M.bd
  rw [hw] at w1
  cases w1
  have kk : Kt H (upd H w (.lst (ws.set i (.ref t)))) := Kt.upd fun ys h => by rw [hw] at h; cases h
  refine ⟨?_, ?_, ⟨_, upd_same, ?_⟩, ⟨bs, ?_, b2.keep kk⟩, M.now, M.nob, M.nwb⟩
  · rw [upd_ne (ne_of M.dk hw (fun z => nomatch z))]
    exact M.dk
  · rw [upd_ne M.now]
    exact M.own
  · show Rows _ _ ((m.wd.set i y).map Wd.row)
    rw [List.map_set]
    exact (rows_put i w2 ht).keep kk
  · rw [upd_ne M.nwb.symm]
    exact b1
theorem mk_putBy {l l2 : Int} {o w b : Addr} : putK (mk l o w b) kBy (.int l2) = mk l2 o w b := by
  have n1 : ¬ kOwn = kBy := fun e => k1 e.symm
  have n2 : ¬ kWd = kBy := fun e => k2 e.symm
  have n3 : ¬ kBd = kBy := fun e => k3 e.symm
  unfold putK mk
  rw [if_pos (by rw [List.any_cons, decide_eq_true (rfl : kBy = kBy)]; rfl)]
  simp only [List.map_cons, List.map_nil, if_neg n1, if_neg n2, if_neg n3, if_true]
theorem MdX.setBy {H : Hp} {d o w b : Addr} {m : Md} {l : Int} (M : MdX H d o w b m) : MdX (upd H d (.dK (Tw.mk l o w b))) d o w b (m.wby l) := by
  have kk : Kt H (upd H d (.dK (Tw.mk l o w b))) := Kt.upd fun xs e => by rw [M.dk] at e; cases e
  obtain ⟨ws, x1, x2⟩ := M.wd
  obtain ⟨bs, x3, x4⟩ := M.bd
  have n1 := ne_of M.dk M.own (fun z => nomatch z)
  have n2 := ne_of M.dk x1 (fun z => nomatch z)
  have n3 := ne_of M.dk x3 (fun z => nomatch z)
  exact ⟨upd_same, by rw [upd_ne n1.symm]; exact M.own, ⟨ws, by rw [upd_ne n2.symm]; exact x1, x2.keep kk⟩, ⟨bs, by rw [upd_ne n3.symm]; exact x3, x4.keep kk⟩, M.now, M.nob, M.nwb⟩
theorem MdX.setOwn {H : Hp} {d o w b D : Addr} {m : Md} {ns : List Str} (M : MdX H d o w b m) (hD : H D = some (.lst (ns.map V.str))) (n1 : D ≠ w) (n2 : D ≠ b) : MdX (upd H d (.dK (Tw.mk m.last D w b))) d D w b { m with own := ns } := by
  have kk : Kt H (upd H d (.dK (Tw.mk m.last D w b))) := Kt.upd fun xs e => by rw [M.dk] at e; cases e
  obtain ⟨ws, x1, x2⟩ := M.wd
  obtain ⟨bs, x3, x4⟩ := M.bd
  have n3 := ne_of M.dk hD (fun z => nomatch z)
  have n4 := ne_of M.dk x1 (fun z => nomatch z)
  have n5 := ne_of M.dk x3 (fun z => nomatch z)
  exact ⟨upd_same, by rw [upd_ne n3.symm]; exact hD, ⟨ws, by rw [upd_ne n4.symm]; exact x1, x2.keep kk⟩, ⟨bs, by rw [upd_ne n5.symm]; exact x3, x4.keep kk⟩, n1, n2, M.nwb⟩
end Tw

set_option maxHeartbeats 4000000
namespace Tw
open PySem PySem.Spec PyProof.Rows L2
section
variable {P : Program} {w : World} {K : PySem.W.Frag} {mg : Str → Option Value} {base : Heap}
/-! ### _law_whole -/
def sp_lwhole : Sp := fun vs H Q _ => ∃ (v : V) (lo hi : Int), vs = [v, .int lo, .int hi] ∧ (plK v).isSome = true ∧ Q (.bl (whB lo hi v)) H
end
end Tw

set_option maxHeartbeats 4000000
namespace Tw
open PySem PySem.Spec PyProof.Rows L2
section
variable {P : Program} {w : World} {K : PySem.W.Frag} {mg : Str → Option Value} {base : Heap}
/-! ### _law_strange -/
def sp_strange : Sp := fun vs H Q _ => ∃ (f c : Addr) (lo hi : Int), vs = [.ref f, .int lo, .int hi] ∧ Flow H f c ∧ ∀ (v : V) (H' : Hp), (plK v).isSome = true → flatV v = true → whB lo hi v = false → Sb f H H' → Flow H' f c → Q v H'
theorem cal__law_strange (T : Tp K mg) : Cal P w K mg base 4 "_law_strange" sp_strange := by
  obtain ⟨fd, F⟩ := f__law_strange T
  refine cal_of F (g__law_strange T) (b__law_strange F) sc__law_strange (fun vs H Q E h => ?_) (fun cdv A outer s H vs Q E hr h => ?_)
  · obtain ⟨f, c, lo, hi, rfl, _⟩ := h
    rfl
  · obtain ⟨f, c, lo, hi, rfl, FL, q⟩ := h
    refine ⟨_, (pss_cons (ps_set (i := 3) sc__law_strange.nd rfl (.inl rfl) (pe_op op_add pe_int (C8.pe_c (cal__law_draw T) hr (by decide) rfl (pa_cons (pv 0) (pa_cons (pe_op op_pow pe_int pe_int) pa_nil)))))
      (pss_one (ps_ret (C8.pe_c (cal__law_pick T) hr (by decide) rfl (pa_cons (pv 0) (pa_cons (pe_lst (pa_cons pe_bl (pa_cons pe_bl (pa_cons pe_non (pa_cons (pe_op op_sub (pv 1) pe_int) (pa_cons (pe_op op_add (pv 2) pe_int) (pa_cons (pe_op op_sub (pv 1) (pv 3)) (pa_cons (pe_op op_add (pv 2) (pv 3)) pa_nil)))))))) pa_nil)))))), ?_⟩
    refine ⟨_, rfl, 10, 30, rfl, rfl, ⟨by decide, by decide, by decide⟩, f, c, _, rfl, FL, by decide, by decide, fun v H1 v0 v1 sb1 F1 => ⟨1, v, rfl, rfl, ?_⟩⟩
    refine ⟨_, rfl, _, rfl, _, _, rfl, rfl, _, rfl, _, _, rfl, rfl, _, rfl, _, rfl, _, _, rfl, rfl, _, rfl, _, rfl, _, _, rfl, rfl, (by show 7 ≤ sizeLine; decide), fun l nl => ?_⟩
    have s2 := same_upd (o := .lst [.bl true, .bl false, .non, .int (lo - 1), .int (hi + 1), .int (lo - (1 + v)), .int (hi + (1 + v))]) nl
    obtain ⟨zs, hf⟩ := F1.lst
    refine ⟨f, c, l, _, rfl, F1.same s2, upd_same, (ne_of_none hf nl).symm, by show 0 < 7; decide, by show 7 ≤ 1000; decide, fun x H2 hx sb3 F3 => ?_⟩
    have sb := (sb1.trans (Sb.of s2)).trans sb3
    have no : ∀ i : Int, (i < lo ∨ hi < i) → whB lo hi (.int i) = false := fun i h => decide_eq_false (by omega)
    simp only [List.mem_cons, List.not_mem_nil, or_false] at hx
    rcases hx with rfl | rfl | rfl | rfl | rfl | rfl | rfl
    · exact q _ H2 rfl rfl rfl sb F3
    · exact q _ H2 rfl rfl rfl sb F3
    · exact q _ H2 rfl rfl rfl sb F3
    · exact q _ H2 rfl rfl (no _ (by omega)) sb F3
    · exact q _ H2 rfl rfl (no _ (by omega)) sb F3
    · exact q _ H2 rfl rfl (no _ (by omega)) sb F3
    · exact q _ H2 rfl rfl (no _ (by omega)) sb F3
end
end Tw

set_option maxHeartbeats 4000000
namespace Tw
open PySem PySem.Spec PyProof.Rows L2
open LamX (ExtN Tabs)
theorem sp_ok : (([("spare" : Str)] : List Str).all fun z => nmB z && (!pool.contains z && !(z == "start"))) = true := by decide +kernel
theorem fil_all {α : Type} {p : α → Bool} : ∀ {l : List α}, (∀ x ∈ l, p x = true) → l.filter p = l := fun h => List.filter_eq_self.2 h
/-- a moment put in and taken out again -/
theorem spare_back {m : Md} (h : ¬ ("spare" : Str) ∈ m.pts) : ((((m.addM "spare").wby 1000).drp "spare").wby m.last) = m := by
  have h1 : ¬ ("spare" : Str) ∈ m.own := fun z => h (List.mem_cons_of_mem _ (List.mem_append_left _ z))
  have h2 : ∀ x ∈ m.wd, ¬ x.en = ("spare" : Str) := fun x hx z => h (List.mem_cons_of_mem _ (List.mem_append_right _ (List.mem_map.2 ⟨x, hx, z⟩)))
  have e1 : (m.own ++ [("spare" : Str)]).filter (fun x : Str => !decide (x = ("spare" : Str))) = m.own := by
    rw [List.filter_append, fil_all fun x hx => by rw [decide_eq_false (show ¬ x = ("spare" : Str) from fun z => h1 (z ▸ hx))]; rfl]
    exact List.append_nil _
  have e2 : m.wd.filter (fun x : Wd => !decide (x.en = ("spare" : Str))) = m.wd := fil_all fun x hx => by rw [decide_eq_false (h2 x hx)]; rfl
  show Md.mk m.last ((m.own ++ [("spare" : Str)]).filter (fun x : Str => !decide (x = ("spare" : Str)))) (m.wd.filter (fun x : Wd => !decide (x.en = ("spare" : Str)))) m.bd = m
  rw [e1, e2]
theorem spare_free {m : Md} (ok : MdOk m) (h : ¬ ("spare" : Str) ∈ m.pts) : usedB ((m.addM "spare").wby 1000) "spare" = false := by
  have h0 : ¬ ("spare" : Str) = "start" := by decide +kernel
  unfold usedB
  rw [Bool.or_eq_false_iff]
  constructor
  · refine decide_eq_false fun z => ?_
    obtain ⟨x, hx, e⟩ := List.mem_map.1 z
    rcases (ok.wd x hx).bg with g | g
    · exact h0 (e.symm.trans g)
    · exact h (List.mem_cons_of_mem _ (List.mem_append_left _ (e ▸ g)))
  · refine List.any_eq_false.2 fun x hx => ?_
    have g := ok.bd x hx
    rw [decide_eq_true_eq]
    intro z
    rcases List.mem_cons.1 z with e | e
    · exact h (e ▸ g.one)
    · exact h (List.mem_singleton.1 e ▸ g.oth)
section
variable {P : Program} {w : World} {K : PySem.W.Frag} {mg : Str → Option Value} {base : Heap}
/-- behind the first j changes: the copy is another picture, or as it was -/
abbrev Chg (H0 : Hp) (a f c d p q d' o' w' b' : Addr) (v kd : Int) (m : Md) (j : Int) (σ : L2.St) (H : Hp) : Prop := ∃ y8 y9 y10 y11 y12 y13 : Option V, σ = [some (.ref a), some (.ref f), some (.int v), some (.ref d), some (.ref p), some (.ref q), some (.ref d'), some (.int kd), y8, y9, y10, y11, y12, y13, none, none, none] ∧ Sb f H0 H ∧ Flow H f c ∧ ((kd ≤ j ∧ ∃ n, MdAt H d' n ∧ MdOk n ∧ m ≠ n) ∨ (j < kd ∧ MdX H d' o' w' b' m))
theorem nf_own {C : Addr} : PySem.W.notFirst K C (.ref C) = true := by
  unfold PySem.W.notFirst
  rw [show (Value.ref C == Value.ref C) = true from beq_self_eq_true _, Bool.true_or]
theorem ty_web (T : Tp K mg) {H : Hp} {q : Addr} {n : Md} (W : WebAt (CW K) H q n) : TyX K H (.ref q) (.ref (CW K)) := by
  obtain ⟨dx, _, _, _, _, _, g, _⟩ := W.ex
  exact .base (.ins g (cl_Web T) (ti0_Web T) (ti1_Web T) (ti2_Web T) (ti3_Web T))
theorem eq_web (T : Tp K mg) {H : Hp} {Q : VK} {p q : Addr} {m n : Md} (W : WebAt (CW K) H p m) (V' : WebAt (CW K) H q n) (lm : Laid m) (ln : Laid n) (yes : m = n → Q (.bl true) H) (no : m ≠ n → Q (.bl false) H) : rEqO K (CW K) (sp_weq K) (.ref p) (.ref q) H Q := by
  obtain ⟨dx, _, _, _, _, _, g, _⟩ := W.ex
  exact ⟨p, dx, _, _, rfl, g, ty_web T V', nf_own, p, q, m, n, rfl, W, V', lm, ln, fun e => ⟨_, rfl, yes e⟩, fun e => ⟨_, rfl, no e⟩⟩
theorem ne_web (T : Tp K mg) {H : Hp} {Q : VK} {p q : Addr} {m n : Md} (W : WebAt (CW K) H p m) (V' : WebAt (CW K) H q n) (lm : Laid m) (ln : Laid n) (yes : m = n → Q (.bl false) H) (no : m ≠ n → Q (.bl true) H) : rNeO K (CW K) (sp_weq K) (.ref p) (.ref q) H Q := by
  obtain ⟨dx, _, _, _, _, _, g, _⟩ := W.ex
  exact ⟨p, dx, _, _, rfl, g, ty_web T V', nf_own, p, q, m, n, rfl, W, V', lm, ln, fun e => ⟨_, rfl, yes e⟩, fun e => ⟨_, rfl, no e⟩⟩
theorem in_web (T : Tp K mg) {H : Hp} {Q : VK} {p q l : Addr} {m : Md} (W : WebAt (CW K) H p m) (V' : WebAt (CW K) H q m) (lm : Laid m) (ne : q ≠ p) (hl : H l = some (.lst [.ref q])) (yes : Q (.bl true) H) : rInO K (CW K) (sp_weq K) (.ref p) (.ref l) H Q := by
  obtain ⟨dx, _, _, _, _, _, g, _⟩ := V'.ex
  exact ⟨p, l, q, dx, _, _, rfl, rfl, hl, ne, g, ty_web T W, nf_own, q, p, m, m, rfl, V', W, lm, lm, fun _ => ⟨_, rfl, hl, yes⟩, fun e => absurd rfl e⟩
theorem nf_ty {C : Addr} {t : Value} (h : PySem.W.subIn K t (.ref C) = some false) : PySem.W.notFirst K C t = true := by
  unfold PySem.W.notFirst
  rw [h]
  exact Bool.or_true _
theorem eq_lst (T : Tp K mg) {H : Hp} {Q : VK} {p l : Addr} {xs : List V} {m : Md} (W : WebAt (CW K) H p m) (hl : H l = some (.lst xs)) (no : Q (.bl false) H) : rEqO K (CW K) (sp_weqN K) (.ref p) (.ref l) H Q := by
  obtain ⟨dx, _, _, _, _, _, g, _⟩ := W.ex
  exact ⟨p, dx, _, _, rfl, g, .base (.lst hl), nf_ty (sl_Web T), p, m, _, rfl, W, .inr ⟨l, xs, rfl, hl⟩, _, rfl, no⟩
theorem eq_str (T : Tp K mg) {H : Hp} {Q : VK} {p : Addr} {z : Str} {m : Md} (W : WebAt (CW K) H p m) (no : Q (.bl false) H) : rEqO K (CW K) (sp_weqN K) (.ref p) (.str z) H Q := by
  obtain ⟨dx, _, _, _, _, _, g, _⟩ := W.ex
  exact ⟨p, dx, _, _, rfl, g, .base (.str z), nf_ty (sz_Web T), p, m, _, rfl, W, .inl ⟨z, rfl⟩, _, rfl, no⟩
theorem ext_put {H0 H : Hp} {L : Addr} {o : HO} (e : ExtN H0 H) (nL : H0 L = none) : ExtN H0 (upd H L o) := fun b x h n => by
  rw [upd_ne (ne_of_none h nL)]
  exact e b x h n
theorem ext_same {H0 H H' : Hp} (e : ExtN H0 H) (s : Same H H') : ExtN H0 H' := fun b x h n => s _ _ (e b x h n)
theorem ext_trans {H0 H H' : Hp} (e : ExtN H0 H) (g : ExtN H H') : ExtN H0 H' := fun b x h n => g b x (e b x h n) n
theorem ext_of {H0 H : Hp} (s : Same H0 H) : ExtN H0 H := fun b x h _ => s _ _ h
def sp_law (K : PySem.W.Frag) : Sp := fun vs H Q _ => ∃ (a : Addr) (ns : List Int), vs = [.ref a] ∧ SqL K H a (ns.map V.int) ∧ H (He.cT K ("law", none)).2 = some (.tbl #[]) ∧ ∀ H', Q (.bl true) H'
theorem ok_law (T : Tp K mg) (TB0 : LamX.TabB base mg (He.cT K ("law", none)).1 (He.cT K ("law", none)).2) {fd : FuncData} (F : FunD K "law" "law" (defArgs s_law) (defBody s_law) (defScope s_law) [] [] (He.ga K "law") fd) : FnOk P w K mg base CX0 12 (He.ga K "law") fd ["_law_script"] (sp_law K) := by
  obtain ⟨oc, od, dV, kV, doc, pm, an, cdv, ct, osl, rfl, lk, hcd, _, _⟩ := F.ex
  obtain ⟨cc, rfl⟩ := He.codeIn_ref hcd
  have hcc : He.codeOf K ("law", none) = cc := He.codeOf_eq lk rfl
  generalize hPt : (He.cT K ("law", none)).2 = Pt at TB0
  have TB : LamX.TabB base mg cc Pt := by
    rw [← hcc]
    exact TB0
  refine fn_of lk hcd sc_law (fun vs H Q E h => ?_) (fun A outer s H vs Q E hr h => ?_)
  · obtain ⟨a, ns, rfl, _⟩ := h
    rfl
  suffices hh : ∃ t, PSs (cxOf CX0 P w K mg base N_law "law" (defScope s_law) (He.ga K "law") (.ref cc) A outer s H E).nox (defBody s_law) t ∧ t { nx := fun _ H' => Q .non H', rt := Q } (start N_law vs) H by
    obtain ⟨t, h1, h2⟩ := hh
    exact ⟨t, h1.nox, h2⟩
  obtain ⟨a, ns, rfl, hS, hT, q⟩ := h
  rw [hPt] at hT
  have hu := hu_of hr
  have hu64 := hr.units
  have tb0 : Tabs [(Pt, qlam)] H := tabs_new hT
  refine ⟨_, (pss_cons (ps_set (i := 1) sc_law.nd rfl (.inl rfl) (C8.pe_c (cal__law_flow T) hr (by decide) rfl (pa_cons (pv 0) pa_nil)))
      (pss_cons (ps_set (i := 2) sc_law.nd rfl (.inl rfl) (pe_op op_add pe_int (C8.pe_c (cal__law_draw T) hr (by decide) rfl (pa_cons (pv 1) (pa_cons pe_int pa_nil)))))
      (pss_cons (ps_set (i := 3) sc_law.nd rfl (.inl rfl) (C8.pe_c (cal__law_drawn T) hr (by decide) rfl (pa_cons (pv 1) (pa_cons (pv 2) (pa_cons (pe_op op_add pe_int (C8.pe_c (cal__law_draw T) hr (by decide) rfl (pa_cons (pv 1) (pa_cons pe_int pa_nil)))) (pa_cons (pe_op op_add pe_int (C8.pe_c (cal__law_draw T) hr (by decide) rfl (pa_cons (pv 1) (pa_cons pe_int pa_nil)))) (pa_cons pe_int (pa_cons (pe_op op_add pe_int (C8.pe_c (cal__law_draw T) hr (by decide) rfl (pa_cons (pv 1) (pa_cons pe_int pa_nil)))) pa_nil))))))))
      (pss_cons (ps_set (i := 4) sc_law.nd rfl (.inr rfl) (C8.pe_c (cal__law_web T) hr (by decide) rfl (pa_cons (pv 3) pa_nil)))
      (pss_cons (ps_set (i := 5) sc_law.nd rfl (.inl rfl) (C8.pe_mt (met_Web_with_by T) hr (by decide) (C8.pe_mt (met_Web_without T) hr (by decide) (C8.pe_mt (met_Web_with_by T) hr (by decide) (C8.pe_mt (met_Web_with_moment T) hr (by decide) (C8.pe_c (cal__law_web T) hr (by decide) rfl (pa_cons (pv 3) pa_nil)) (pa_cons pe_str pa_nil)) (pa_cons pe_int pa_nil)) (pa_cons pe_str pa_nil)) (pa_cons (pe_dget hu (pv 3) pe_str (fun _ _ => rfl)) pa_nil)))
      (pss_cons (ps_if (pt_not (pt_val (C8.pe_c (cal__law_same T) hr (by decide) rfl (pa_cons (pe_lst (pa_cons (pe_cmpR (op_eqO (met_Web_UeqU T) hr (by decide)) (pv 4) (pv 5) (nomark _)) (pa_cons (pe_cmpR (op_eqO (met_Web_UeqU T) hr (by decide)) (pv 5) (pv 4) (nomark _)) (pa_cons (pe_cmpR (op_neO (met_Web_UeqU T) (ne_Web T) (ob_Web T) hr (by decide)) (pv 4) (pv 5) (nomark _)) (pa_cons (pe_cmpR (op_inO (met_Web_UeqU T) hr (by decide)) (pv 4) (pe_lst (pa_cons (pv 5) pa_nil)) (by rfl)) pa_nil))))) (pa_cons (pe_lst (pa_cons pe_bl (pa_cons pe_bl (pa_cons pe_bl (pa_cons pe_bl pa_nil))))) pa_nil))))) (pss_one (ps_ret pe_bl)) pss_nil)
      (pss_cons (ps_set (i := 6) sc_law.nd rfl (.inl rfl) (C8.pe_c (cal__law_copy T) hr (by decide) rfl (pa_cons (pv 3) pa_nil)))
      (pss_cons (ps_set (i := 7) sc_law.nd rfl (.inl rfl) (C8.pe_c (cal__law_draw T) hr (by decide) rfl (pa_cons (pv 1) (pa_cons pe_int pa_nil))))
      (C8.pss_cut (ps_if (pt_cmpR op_eq (pv 7) pe_int (nomark _)) (pss_one (ps_dput hu (pv 6) pe_str (pe_op op_add (pe_dget hu (pv 3) pe_str (fun _ _ => rfl)) pe_int) rfl)) pss_nil)
      (C8.pss_cut (ps_if (pt_cmpR op_eq (pv 7) pe_int (nomark _)) (pss_one (ps_dput hu (pv 6) pe_str (pe_op op_cat (pe_slice sl_list (pe_dget hu (pv 3) pe_str (fun _ _ => rfl)) (po_some pe_int) po_none) (pe_slice sl_list (pe_dget hu (pv 3) pe_str (fun _ _ => rfl)) po_none (po_some pe_int))) rfl)) pss_nil)
      (C8.pss_cut (ps_if (pt_cmpR op_eq (pv 7) pe_int (nomark _)) (pss_cons (ps_set (i := 8) sc_law.nd rfl (.inl rfl) (C8.pe_c (cal__law_draw T) hr (by decide) rfl (pa_cons (pv 1) (pa_cons (pe_callB call_len_seq (by rfl) (z_len T) bb_len (pa_cons (pe_dget hu (pv 3) pe_str (fun _ _ => rfl)) pa_nil)) pa_nil))))
        (pss_cons (ps_asg (pe_ix ix_list (pe_dget hu (pv 3) pe_str (fun _ _ => rfl)) (pv 8) (fun _ _ => rfl)) (pg_tup rfl (pgs_cons (pg_name (i := 9) sc_law.nd rfl (.inl rfl)) (pgs_cons (pg_name (i := 10) sc_law.nd rfl (.inl rfl)) (pgs_cons (pg_name (i := 11) sc_law.nd rfl (.inl rfl)) (pgs_cons (pg_name (i := 12) sc_law.nd rfl (.inl rfl)) (pgs_cons (pg_name (i := 13) sc_law.nd rfl (.inl rfl)) pgs_nil)))))))
        (pss_one (ps_asg (C8.pe_c (cal__law_pick T) hr (by decide) rfl (pa_cons (pv 1) (pa_cons (pe_lst (pa_cons (pe_tup (pa_cons (pv 9) (pa_cons (pv 10) (pa_cons (pv 11) (pa_cons (pe_op op_add (pv 12) pe_int) (pa_cons (pv 13) pa_nil)))))) (pa_cons (pe_tup (pa_cons (pv 9) (pa_cons (pv 10) (pa_cons (pv 11) (pa_cons (pv 12) (pa_cons pe_int pa_nil)))))) pa_nil))) pa_nil))) (pg_sub (pe_dget hu (pv 6) pe_str (fun _ _ => rfl)) (pv 8) set_list))))) pss_nil)
      (C8.pss_cut (ps_if (pt_cmpR op_eq (pv 7) pe_int (nomark _)) (pss_cons (ps_set (i := 8) sc_law.nd rfl (.inl rfl) (C8.pe_c (cal__law_draw T) hr (by decide) rfl (pa_cons (pv 1) (pa_cons (pe_callB call_len_seq (by rfl) (z_len T) bb_len (pa_cons (pe_dget hu (pv 3) pe_str (fun _ _ => rfl)) pa_nil)) pa_nil))))
        (pss_one (ps_asg (pe_op op_catU (pe_tup (pa_cons (pe_ix ix_tup (pe_ix ix_list (pe_dget hu (pv 3) pe_str (fun _ _ => rfl)) (pv 8) (fun _ _ => rfl)) pe_int (fun _ _ => rfl)) (pa_cons (pe_ix ix_tup (pe_ix ix_list (pe_dget hu (pv 3) pe_str (fun _ _ => rfl)) (pv 8) (fun _ _ => rfl)) pe_int (fun _ _ => rfl)) pa_nil))) (pe_slice sl_tupU (pe_ix ix_list (pe_dget hu (pv 3) pe_str (fun _ _ => rfl)) (pv 8) (fun _ _ => rfl)) (po_some pe_int) po_none)) (pg_sub (pe_dget hu (pv 6) pe_str (fun _ _ => rfl)) (pv 8) set_list)))) pss_nil)
      (C8.pss_cut (ps_if (pt_cmpR op_eq (pv 7) pe_int (nomark _)) (pss_one (ps_expr (pe_bm PySem.F.plainAttrs_list PySem.F.slot_list_append PySem.F.type_list_append mt_append (pe_dget hu (pv 6) pe_str (fun _ _ => rfl)) (pa_cons (pe_ix ix_list (pe_dget hu (pv 3) pe_str (fun _ _ => rfl)) pe_int (fun _ _ => rfl)) pa_nil)))) pss_nil)
      (pss_cons (ps_set (i := 14) sc_law.nd rfl (.inl rfl) (C8.pe_c (cal__law_web T) hr (by decide) rfl (pa_cons (pv 6) pa_nil)))
      (pss_cons (ps_if (pt_not (pt_val (C8.pe_c (cal__law_same T) hr (by decide) rfl (pa_cons (pe_lst (pa_cons (pe_cmpR (op_eqO (met_Web_UeqU T) hr (by decide)) (pv 4) (pv 14) (nomark _)) (pa_cons (pe_cmpR (op_eqO (met_Web_UeqU T) hr (by decide)) (pv 14) (pv 4) (nomark _)) (pa_cons (pe_cmpR (op_neO (met_Web_UeqU T) (ne_Web T) (ob_Web T) hr (by decide)) (pv 4) (pv 14) (nomark _)) pa_nil)))) (pa_cons (pe_lst (pa_cons pe_bl (pa_cons pe_bl (pa_cons pe_bl pa_nil)))) pa_nil))))) (pss_one (ps_ret pe_bl)) pss_nil)
      (pss_cons (ps_if (PW.pt (pw_or (pt_cmpR (op_eqO (met_Web_UeqU_no T) hr (by decide)) (pv 4) (pe_dget hu (pv 3) pe_str (fun _ _ => rfl)) (nomark _)) (pw_or (pt_cmpR (op_eqO (met_Web_UeqU_no T) hr (by decide)) (pv 4) (pe_callB (call_reprO (met_Web_UreprU T) hr (by decide)) (by rfl) (z_repr T) bb_repr (pa_cons (pv 4) pa_nil)) (nomark _)) (pw_or1 (pt_cmpR op_isN (pv 4) pe_non (nomark _)))))) (pss_one (ps_ret pe_bl)) pss_nil)
      (pss_cons (ps_set (i := 15) sc_law.nd rfl (.inr rfl) (C8.pe_c (cal__law_strange T) hr (by decide) rfl (pa_cons (pv 1) (pa_cons pe_int (pa_cons pe_int pa_nil)))))
      (pss_cons (ps_set (i := 16) sc_law.nd rfl (.inl rfl) (pe_lst (pa_cons (pe_lam T TB rfl hr (LamX.lamS_by (sc := defScope s_law) (by decide +kernel)) (fun A' outer' s' H' E' f' c' hr tk => (pe_mkx (makx_Web T) tk (fun _ _ _ _ h => h) hr (by decide) rfl (pa_cons (pv 15) pa_nil)))) pa_nil)))
      (pss_cons (ps_expr (pe_bm PySem.F.plainAttrs_list PySem.F.slot_list_append PySem.F.type_list_append mt_append (pv 16) (pa_cons (pe_lam T TB rfl hr (LamX.lamS_by (sc := defScope s_law) (by decide +kernel)) (fun A' outer' s' H' E' f' c' hr tk => (pe_mx (metx_Web_with_by T) tk (fun _ _ _ _ h => h) hr (by decide) (pv 4) (pa_cons (pv 15) pa_nil)))) pa_nil)))
      (pss_cons (ps_expr (pe_bm PySem.F.plainAttrs_list PySem.F.slot_list_append PySem.F.type_list_append mt_append (pv 16) (pa_cons (pe_lam T TB rfl hr (LamX.lamS_by (sc := defScope s_law) (by decide +kernel)) (fun A' outer' s' H' E' f' c' hr tk => (pe_wkx (makkx_Web T) tk (fun _ _ _ _ h => h) hr (by decide) rfl (pv 15)))) pa_nil)))
      (pss_one (ps_ret (pe_and (C8.pe_c (cal__law_same T) hr (by decide) rfl (pa_cons (pe_op op_cat (pv 16) (pe_lst (pa_cons (pe_fld (pe_wk (makk_Web T) hr (by decide) rfl pe_int) rfl) pa_nil))) (pa_cons (pe_op op_cat (pe_op op_rep (pe_lst (pa_cons (pe_tup (pa_cons pe_str (pa_cons (pv 15) pa_nil))) pa_nil)) pe_int) (pe_lst (pa_cons pe_int pa_nil))) pa_nil))) (pe_one (C8.pe_c (cal__law_stands T) hr (by decide) rfl (pa_cons (pv 4) (pa_cons (pv 3) pa_nil))))))))))))))))))))))))))), ?_⟩
  refine ⟨_, rfl, a, ns, rfl, hS, fun f c H1 s1 nf nc F1 => ?_⟩
  refine ⟨_, rfl, f, c, 3, rfl, F1, by decide, by decide, fun v1 H2 a1 b1 sb1 F2 => ⟨2, v1, rfl, rfl, ?_⟩⟩
  refine ⟨_, rfl, _, rfl, _, rfl, f, c, 3, rfl, F2, by decide, by decide, fun v2 H3 a2 b2 sb2 F3 => ⟨1, v2, rfl, rfl, _, rfl, f, c, 4, rfl, F3, by decide, by decide, fun v3 H4 a3 b3 sb3 F4 => ⟨1, v3, rfl, rfl, _, rfl, f, c, 999, rfl, F4, by decide, by decide, fun v4 H5 a4 b4 sb4 F5 => ⟨1, v4, rfl, rfl, ?_⟩⟩⟩⟩
  refine ⟨f, c, 2 + v1, 1 + v2, 1 + v3, 9, 1 + v4, rfl, F5, by omega, by omega, by omega, by omega, by omega, by omega, by omega, by omega, by omega, by omega, by omega, fun d m H6 sb6 F6 nd M ok hlast hown hwd hbd near => ?_⟩
  obtain ⟨zs1, hf1⟩ := F1.lst
  have tb6 : Tabs [(Pt, qlam)] H6 := tabs_sb (tabs_same tb0 s1) (sb1.trans (sb2.trans (sb3.trans (sb4.trans sb6)))) hf1
  have hlen := ok.len
  have lm := laid_of ok
  refine ⟨_, rfl, d, m, rfl, M, ok, fun p H7 s7 np W => ?_⟩
  have A7 : All K f c d p Pt m H7 := ⟨F6.same s7, M.same s7, W, tabs_same tb6 s7⟩
  -- the same by other deeds
  obtain ⟨nsp, osp⟩ := free_of sp_ok ok (List.mem_singleton.2 rfl)
  refine ⟨_, rfl, d, m, rfl, A7.md, ok, fun p1 H8 s8 np1 W1 => ?_⟩
  obtain ⟨dx1, _, _, _, _, _, g1, _⟩ := W1.ex
  refine ⟨p1, dx1, _, rfl, g1, wf_no (by decide +kernel), p1, m, "spare", rfl, W1, nsp, osp, by omega, fun p2 H9 s9 np2 W2 => ?_⟩
  obtain ⟨dx2, _, _, _, _, _, g2, _⟩ := W2.ex
  refine ⟨p2, dx2, _, rfl, g2, wf_no (by decide +kernel), p2, _, 1000, rfl, W2, by decide, by decide, fun p3 H10 s10 np3 W3 => ?_⟩
  obtain ⟨dx3, _, _, _, _, _, g3, _⟩ := W3.ex
  have in3 : ("spare" : Str) ∈ ((m.addM "spare").wby 1000).pts := List.mem_cons_of_mem _ (List.mem_append_left _ (List.mem_append_right _ (List.mem_singleton.2 rfl)))
  have n3 : ¬ ("spare" : Str) = "start" := by decide +kernel
  refine ⟨p3, dx3, _, rfl, g3, wf_no (by decide +kernel), p3, _, "spare", rfl, W3, fun z => (z.elim (fun z => z in3) (fun z => n3 z)).elim, fun _ _ z => absurd z (by rw [spare_free ok osp]; exact Bool.false_ne_true), fun _ _ _ p4 H11 s11 np4 W4 => ?_⟩
  obtain ⟨dx4, _, _, _, _, _, g4, _⟩ := W4.ex
  have s711 := ((s8.trans s9).trans s10).trans s11
  have A11 := A7.same s711
  obtain ⟨o, u, b, ws, bs, h1, h2, h3, h4, h5, h6, h7⟩ := A11.md.ex
  refine ⟨p4, dx4, _, rfl, g4, wf_no (by decide +kernel), _, rfl, d, _, rfl, mk_by h1, p4, _, m.last, rfl, W4, ok.last.1, ok.last.2, fun p5 H12 s12 np5 W5 => ?_⟩
  rw [spare_back osp] at W5
  have A12 := A11.same s12
  have np5p : p5 ≠ p := fun e => by
    obtain ⟨_, _, _, _, _, _, g, _⟩ := A11.web.ex
    rw [e, g] at np5
    cases np5
  refine ⟨_, rfl, _, rfl, eq_web T A12.web W5 lm lm (fun _ => ?_) (fun e => absurd rfl e)⟩
  refine ⟨_, rfl, _, rfl, eq_web T W5 A12.web lm lm (fun _ => ?_) (fun e => absurd rfl e)⟩
  refine ⟨_, rfl, _, rfl, ne_web T A12.web W5 lm lm (fun _ => ?_) (fun e => absurd rfl e)⟩
  refine ⟨_, rfl, _, rfl, (by show 1 ≤ sizeLine; decide), fun l0 n0 => ?_⟩
  have s13 := same_upd (o := .lst [.ref p5]) n0
  refine in_web T (A12.same s13).web (W5.same s13) lm np5p upd_same ?_
  refine ⟨(by show 4 ≤ sizeLine; decide), fun l1 n1 => ⟨(by show 4 ≤ sizeLine; decide), fun l2 n2 => ?_⟩⟩
  have sl1 := same_upd (o := .lst [.bl true, .bl true, .bl false, .bl true]) n1
  have sl2 := same_upd (o := .lst [.bl true, .bl true, .bl false, .bl true]) n2
  refine ⟨_, _, rfl, sm_lst (n := 6) (sl2 _ _ upd_same) upd_same rfl (by show 4 ≤ 1000; decide) (sm_flats (n := 5) rfl), fun H14 s14 => ⟨_, rfl, iteF ?_⟩⟩
  have A14 := A12.same (s13.trans ((sl1.trans sl2).trans s14))
  -- the copy
  refine ⟨_, rfl, d, m, rfl, A14.md, fun d' o' w' b' H15 s15 nd' no' nw' nb' X15 => ?_⟩
  have A15 := A14.same s15
  refine ⟨_, rfl, f, c, 5, rfl, A15.fl, by decide, by decide, fun kd H16 k0 k5 sb16 F16 => ?_⟩
  have X16 := X15.sb A15.fl sb16
  obtain ⟨zf14, hf14⟩ := A14.fl.lst
  obtain ⟨zc14, hc14⟩ := A14.fl.cells
  have sb1416 : Sb f H14 H16 := (Sb.of s15).trans sb16
  have hall : ∀ {H'}, Sb f H14 H' → Flow H' f c → All K f c d p Pt m H' := fun sb F => A14.sb sb F
  -- by
  refine ⟨Chg H14 a f c d p p5 d' o' w' b' (2 + v1) kd m 0, ?_, ?_⟩
  · refine ⟨_, rfl, rfl, _, rfl, ?_⟩
    by_cases e0 : kd = 0
    · rw [decide_eq_true (congrArg V.int e0)]
      obtain ⟨o, u, b, ws, bs, h1, h2, h3, h4, h5, h6, h7⟩ := (hall sb1416 F16).md.ex
      refine iteT ⟨_, rfl, d, _, rfl, mk_by h1, _, 1, rfl, rfl, _, rfl, d', _, rfl, DPut.k (k := kBy) X16.dk (by show 4 < sizeLine; decide), ?_⟩
      rw [mk_putBy]
      refine ⟨_, _, _, _, _, _, rfl, ?_, ?_, .inl ⟨by omega, _, X16.setBy.at, ok_by ok (by omega), ne_by⟩⟩
      · intro z y ez nz
        rw [upd_ne (ne_of_none ez nd')]
        exact sb1416 z y ez nz
      · exact F16.upd (ne_of_none hf14 nd') (ne_of_none hc14 nd')
    · rw [decide_eq_false (fun e => e0 (V.int.inj e))]
      exact iteF ⟨_, _, _, _, _, _, rfl, sb1416, F16, .inr ⟨by omega, X16⟩⟩
  clear sb1416 F16 X16 sb16
  rintro σ H17 ⟨y8, y9, y10, y11, y12, y13, rfl, sb17, F17, C17⟩
  -- the moments
  refine ⟨Chg H14 a f c d p p5 d' o' w' b' (2 + v1) kd m 1, ?_, ?_⟩
  · refine ⟨_, rfl, rfl, _, rfl, ?_⟩
    by_cases e1 : kd = 1
    · rw [decide_eq_true (congrArg V.int e1)]
      rcases C17 with ⟨z, _⟩ | ⟨_, X17⟩
      · omega
      obtain ⟨o, u, b, ws, bs, h1, h2, h3, h4, h5, h6, h7⟩ := (hall sb17 F17).md.ex
      refine iteT ⟨_, rfl, d, _, rfl, mk_own h1, 1, rfl, o, _, rfl, .inl (.inl h2), fun D1 nD1 => ?_⟩
      rw [cut_suf m.own (show (0 : Int) ≤ 1 by decide)]
      have t1 := same_upd (o := .lst ((m.own.drop (1 : Int).toNat).map V.str)) nD1
      refine ⟨_, rfl, d, _, rfl, mk_own (t1 _ _ h1), 1, rfl, o, _, rfl, .inl (.inl (t1 _ _ h2)), fun D2 nD2 => ?_⟩
      rw [cut_pre m.own (show (0 : Int) ≤ 1 by decide)]
      have t2 := t1.trans (same_upd (o := .lst ((m.own.take (1 : Int).toNat).map V.str)) nD2)
      refine ⟨D1, D2, _, _, rfl, rfl, by rw [upd_ne (ne_of_none upd_same nD2)]; exact upd_same, upd_same, ?_, fun D nD => ?_⟩
      · rw [List.length_map, List.length_map]
        refine Nat.le_of_lt (small1000 ?_)
        have h1 := List.length_drop (l := m.own) (i := (1 : Int).toNat)
        have h2 := List.length_take_le (1 : Int).toNat m.own
        omega
      rw [← List.map_append]
      have t3 := t2.trans (same_upd (o := .lst ((m.own.drop (1 : Int).toNat ++ m.own.take (1 : Int).toNat).map V.str)) nD)
      have hD : (upd (upd (upd H17 D1 (.lst ((m.own.drop (1 : Int).toNat).map V.str))) D2 (.lst ((m.own.take (1 : Int).toNat).map V.str))) D (.lst ((m.own.drop (1 : Int).toNat ++ m.own.take (1 : Int).toNat).map V.str))) D = some (.lst (m.rot.own.map V.str)) := upd_same
      generalize upd (upd (upd H17 D1 (.lst ((m.own.drop (1 : Int).toNat).map V.str))) D2 (.lst ((m.own.take (1 : Int).toNat).map V.str))) D (.lst ((m.own.drop (1 : Int).toNat ++ m.own.take (1 : Int).toNat).map V.str)) = H18 at t3 hD ⊢
      have nDH : H17 D = none := t2.free nD
      have X18 := X17.same t3
      obtain ⟨xw, hw1, _⟩ := X17.wd
      obtain ⟨xb, hb1, _⟩ := X17.bd
      refine ⟨_, rfl, d', _, rfl, DPut.k (k := kOwn) X18.dk (by show 4 < sizeLine; decide), ?_⟩
      rw [mk_putOwn]
      have X19 := X18.setOwn hD (ne_of_none hw1 nDH).symm (ne_of_none hb1 nDH).symm
      refine ⟨_, _, _, _, _, _, rfl, ?_, ?_, .inl ⟨by omega, m.rot, X19.at, ok_rot ok, ne_rot ok (by rw [hown]; omega)⟩⟩
      · intro z y ez nz
        rw [upd_ne (ne_of_none ez nd')]
        exact t3 _ _ (sb17 z y ez nz)
      · exact (F17.same t3).upd (ne_of_none hf14 nd') (ne_of_none hc14 nd')
    · rw [decide_eq_false (fun e => e1 (V.int.inj e))]
      refine iteF ⟨_, _, _, _, _, _, rfl, sb17, F17, ?_⟩
      rcases C17 with ⟨z, n⟩ | ⟨z, X17⟩
      · exact .inl ⟨by omega, n⟩
      · exact .inr ⟨by omega, X17⟩
  clear C17 F17 sb17
  rintro σ H17 ⟨y8, y9, y10, y11, y12, y13, rfl, sb17, F17, C17⟩
  -- a span
  refine ⟨Chg H14 a f c d p p5 d' o' w' b' (2 + v1) kd m 2, ?_, ?_⟩
  · refine ⟨_, rfl, rfl, _, rfl, ?_⟩
    by_cases e2 : kd = 2
    · rw [decide_eq_true (congrArg V.int e2)]
      rcases C17 with ⟨z, _⟩ | ⟨_, X17⟩
      · omega
      have A17 := hall sb17 F17
      obtain ⟨o, u, b, ws, bs, h1, h2, h3, h4, h5, h6, h7⟩ := A17.md.ex
      have lw : ws.length = m.wd.length := by rw [h4.len, List.length_map]
      refine iteT ⟨_, rfl, _, rfl, d, _, rfl, mk_wd h1, u, ws, rfl, .inl (.inl (.inl h3)), f, c, _, rfl, F17, by omega, by omega, fun at_ H18 i0 i1 sb18 F18 => ?_⟩
      obtain ⟨i, rfl⟩ : ∃ i : Nat, at_ = (i : Int) := ⟨at_.toNat, by omega⟩
      have X18 := X17.sb F17 sb18
      have sb1418 := sb17.trans sb18
      have A18 := hall sb1418 F18
      obtain ⟨o2, u2, b2, ws2, bs2, g1, g2, g3, g4, g5, g6, g7⟩ := A18.md.ex
      have lw2 : ws2.length = m.wd.length := by rw [g4.len, List.length_map]
      have hi : i < m.wd.length := by omega
      obtain ⟨x, ex⟩ : ∃ x, m.wd[i]? = some x := ⟨_, List.getElem?_eq_getElem hi⟩
      obtain ⟨vx, evx⟩ : ∃ vx, ws2[i]? = some vx := ⟨_, List.getElem?_eq_getElem (by omega)⟩
      obtain ⟨tx, rfl, htx⟩ := rows_at g4 evx ex
      refine ⟨_, rfl, d, _, rfl, mk_wd g1, _, rfl, u2, ws2, _, _, rfl, rfl, .inl (.inl g3), atI_nat evx, ?_⟩
      refine ⟨tx, _, rfl, .inl (.inl htx), rfl, _, _, rfl, _, _, rfl, _, _, rfl, _, _, rfl, _, _, rfl, rfl, ?_⟩
      refine ⟨_, rfl, _, rfl, _, rfl, _, rfl, _, rfl, x.hi, 1, rfl, rfl, _, rfl, (by show 5 ≤ sizeLine; decide), fun t1 nt1 => ?_⟩
      have k1 := same_upd (o := .tup (Wd.row { x with hi := x.hi + 1 })) nt1
      refine ⟨_, rfl, _, rfl, _, rfl, _, rfl, (by show 5 ≤ sizeLine; decide), fun t2 nt2 => ⟨(by show 2 ≤ sizeLine; decide), fun L nL => ?_⟩⟩
      have k2 := same_upd (o := .tup (Wd.row { x with la := some 77 })) nt2
      have k3 := same_upd (o := .lst [.ref t1, .ref t2]) nL
      have k123 := (k1.trans k2).trans k3
      have F19 := F18.same k123
      obtain ⟨zf19, hf19⟩ := F19.lst
      have nLf : L ≠ f := fun e => by
        obtain ⟨zf18, hf18⟩ := (F18.same (k1.trans k2)).lst
        rw [e] at nL
        exact absurd (nL.symm.trans hf18) (fun z => nomatch z)
      refine ⟨f, c, L, _, rfl, F19, upd_same, nLf, by show 0 < 2; decide, by show 2 ≤ 1000; decide, fun v H20 hv sb20 F20 => ?_⟩
      have q1 := (k2.trans k3) _ _ (upd_same (H := H18) (a := t1) (o := .tup (Wd.row { x with hi := x.hi + 1 })))
      have q2 := k3 _ _ (upd_same (H := upd H18 t1 (.tup (Wd.row { x with hi := x.hi + 1 }))) (a := t2) (o := .tup (Wd.row { x with la := some 77 })))
      have kt20 := sb20.kt hf19
      have wx := ok.wd x (List.mem_of_getElem? ex)
      have nx := near x (List.mem_of_getElem? ex)
      obtain ⟨t3, y, rfl, ht3, hen, oky, xny⟩ : ∃ t3 y, v = V.ref t3 ∧ H20 t3 = some (.tup (Wd.row y)) ∧ y.en = x.en ∧ WdOk m.own y ∧ x ≠ y := by
        rcases List.mem_cons.1 hv with h | h
        · exact ⟨t1, { x with hi := x.hi + 1 }, h, kt20 _ _ q1, rfl, ⟨wx.bg, wx.lo, by show x.lo ≤ x.hi + 1; have := wx.hi; omega, by show x.hi + 1 ≤ 1000; have := nx.2.1; omega, wx.la⟩, fun e => by have := congrArg Wd.hi e; have : x.hi = x.hi + 1 := this; omega⟩
        · exact ⟨t2, { x with la := some 77 }, List.mem_singleton.1 h, kt20 _ _ q2, rfl, ⟨wx.bg, wx.lo, wx.hi, wx.top, fun i e => by cases e; decide⟩, fun e => by have := nx.2.2 77 (by rw [congrArg Wd.la e]); omega⟩
      have X20 := (X18.same k123).sb F19 sb20
      obtain ⟨ws', hw', rw'⟩ := X20.wd
      have lw' : ws'.length = m.wd.length := by rw [rw'.len, List.length_map]
      refine ⟨_, rfl, d', _, rfl, mk_wd X20.dk, _, rfl, w', ws', _, i, rfl, rfl, hw', ?_, ?_⟩
      · unfold ixN
        rw [if_pos (by omega), if_pos (by omega)]
        congr 1
      have X21 := X20.setW (i := i) hw' ht3
      have sb1420 : Sb f H14 H20 := sb1418.trans ((Sb.of k123).trans sb20)
      refine ⟨_, _, _, _, _, _, rfl, ?_, F20.upd (ne_of_none hf14 nw') (ne_of_none hc14 nw'), .inl ⟨by omega, m.sw i y, X21.at, ok_sw ok ex hen oky, ne_sw ex xny⟩⟩
      intro z o ez n
      rw [upd_ne (ne_of_none ez nw')]
      exact sb1420 z o ez n
    · rw [decide_eq_false (fun e => e2 (V.int.inj e))]
      refine iteF ⟨_, _, _, _, _, _, rfl, sb17, F17, ?_⟩
      rcases C17 with ⟨z, n⟩ | ⟨z, X17⟩
      · exact .inl ⟨by omega, n⟩
      · exact .inr ⟨by omega, X17⟩
  clear C17 F17 sb17
  rintro σ H17 ⟨y8, y9, y10, y11, y12, y13, rfl, sb17, F17, C17⟩
  -- a tie
  refine ⟨Chg H14 a f c d p p5 d' o' w' b' (2 + v1) kd m 3, ?_, ?_⟩
  · refine ⟨_, rfl, rfl, _, rfl, ?_⟩
    by_cases e3 : kd = 3
    · rw [decide_eq_true (congrArg V.int e3)]
      rcases C17 with ⟨z, _⟩ | ⟨_, X17⟩
      · omega
      have A17 := hall sb17 F17
      obtain ⟨o, u, b, ws, bs, h1, h2, h3, h4, h5, h6, h7⟩ := A17.md.ex
      have lb : bs.length = m.bd.length := by rw [h6.len, List.length_map]
      refine iteT ⟨_, rfl, _, rfl, d, _, rfl, mk_bd h1, b, bs, rfl, .inl (.inl (.inl h5)), f, c, _, rfl, F17, by omega, by omega, fun at_ H18 i0 i1 sb18 F18 => ?_⟩
      obtain ⟨i, rfl⟩ : ∃ i : Nat, at_ = (i : Int) := ⟨at_.toNat, by omega⟩
      have X18 := X17.sb F17 sb18
      have sb1418 := sb17.trans sb18
      have A18 := hall sb1418 F18
      obtain ⟨o2, u2, b2, ws2, bs2, g1, g2, g3, g4, g5, g6, g7⟩ := A18.md.ex
      have lb2 : bs2.length = m.bd.length := by rw [g6.len, List.length_map]
      have hi : i < m.bd.length := by omega
      obtain ⟨x, ex⟩ : ∃ x, m.bd[i]? = some x := ⟨_, List.getElem?_eq_getElem hi⟩
      obtain ⟨vx, evx⟩ : ∃ vx, bs2[i]? = some vx := ⟨_, List.getElem?_eq_getElem (by omega)⟩
      obtain ⟨tx, rfl, htx⟩ := rows_at g6 evx ex
      refine ⟨_, rfl, d, _, rfl, mk_bd g1, _, rfl, b2, bs2, _, _, rfl, rfl, .inl (.inl g5), atI_nat evx, tx, _, 1, _, rfl, rfl, .inl (.inl htx), atI_nat (j := 1) rfl, ?_⟩
      refine ⟨_, rfl, d, _, rfl, mk_bd g1, _, rfl, b2, bs2, _, _, rfl, rfl, .inl (.inl g5), atI_nat evx, tx, _, 0, _, rfl, rfl, .inl (.inl htx), atI_nat (j := 0) rfl, (by show 2 ≤ sizeLine; decide), fun t1 nt1 => ?_⟩
      have k1 := same_upd (o := .tup [.str x.oth, .str x.one]) nt1
      refine ⟨_, rfl, d, _, rfl, mk_bd (k1 _ _ g1), _, rfl, b2, bs2, _, _, rfl, rfl, .inl (.inl (k1 _ _ g5)), atI_nat evx, 2, rfl, tx, _, rfl, k1 _ _ htx, fun S H19 k2 hS => ?_⟩
      have ecut : cutV (Bd.row x) (some 2) none = [oV x.bot, oV x.top] := by
        have e : (2 : Int) = ((2 : Nat) : Int) := rfl
        unfold cutV
        rw [HT.sIx_none, e, HT.sIx_nat]
        rfl
      rw [ecut] at hS
      refine ⟨t1, S, _, _, rfl, rfl, k2 _ _ upd_same, hS, by show 2 + 2 ≤ sizeLine; decide, fun t3 H20 k3 ht3 => ?_⟩
      have k123 := (k1.trans k2).trans k3
      have X20 := X18.same k123
      have okx := ok.bd x (List.mem_of_getElem? ex)
      obtain ⟨bs', hb', rb'⟩ := X20.bd
      have lb' : bs'.length = m.bd.length := by rw [rb'.len, List.length_map]
      refine ⟨_, rfl, d', _, rfl, mk_bd X20.dk, _, rfl, b', bs', _, i, rfl, rfl, hb', ?_, ?_⟩
      · unfold ixN
        rw [if_pos (by omega), if_pos (by omega)]
        congr 1
      have ht4 : H20 t3 = some (.tup (Bd.row { x with one := x.oth, oth := x.one })) := ht3
      have X21 := X20.setB (i := i) hb' ht4
      have sb1420 : Sb f H14 H20 := sb1418.trans (Sb.of k123)
      refine ⟨_, _, _, _, _, _, rfl, ?_, (F18.same k123).upd (ne_of_none hf14 nb') (ne_of_none hc14 nb'), .inl ⟨by omega, _, X21.at, ok_st ok ⟨okx.oth, okx.one, fun e => okx.ne e.symm, okx.b⟩, ne_st ex fun e => okx.ne (congrArg Bd.one e)⟩⟩
      intro z o ez n
      rw [upd_ne (ne_of_none ez nb')]
      exact sb1420 z o ez n
    · rw [decide_eq_false (fun e => e3 (V.int.inj e))]
      refine iteF ⟨_, _, _, _, _, _, rfl, sb17, F17, ?_⟩
      rcases C17 with ⟨z, n⟩ | ⟨z, X17⟩
      · exact .inl ⟨by omega, n⟩
      · exact .inr ⟨by omega, X17⟩
  clear C17 F17 sb17
  rintro σ H17 ⟨y8, y9, y10, y11, y12, y13, rfl, sb17, F17, C17⟩
  -- one more
  refine ⟨Chg H14 a f c d p p5 d' o' w' b' (2 + v1) kd m 4, ?_, ?_⟩
  · refine ⟨_, rfl, rfl, _, rfl, ?_⟩
    by_cases e4 : kd = 4
    · rw [decide_eq_true (congrArg V.int e4)]
      rcases C17 with ⟨z, _⟩ | ⟨_, X17⟩
      · omega
      have A17 := hall sb17 F17
      obtain ⟨o, u, b, ws, bs, h1, h2, h3, h4, h5, h6, h7⟩ := A17.md.ex
      have lb : bs.length = m.bd.length := by rw [h6.len, List.length_map]
      obtain ⟨x, ex⟩ : ∃ x, m.bd[0]? = some x := ⟨_, List.getElem?_eq_getElem (by omega)⟩
      obtain ⟨vx, evx⟩ : ∃ vx, bs[0]? = some vx := ⟨_, List.getElem?_eq_getElem (by omega)⟩
      obtain ⟨tx, rfl, htx⟩ := rows_at h6 evx ex
      obtain ⟨bs', hb', rb'⟩ := X17.bd
      refine iteT ⟨_, rfl, d', _, rfl, mk_bd X17.dk, .inl ⟨rfl, _, .inl (.inl hb')⟩, _, rfl, d, _, rfl, mk_bd h1, b, bs, _, _, rfl, rfl, .inl (.inl h5), atI_nat (j := 0) evx, b', _, _, rfl, rfl, hb', ?_, ?_⟩
      · have := rb'.len
        rw [List.length_map] at this
        exact small1000 (by omega)
      refine ⟨_, _, _, _, _, _, rfl, ?_, F17.upd (ne_of_none hf14 nb') (ne_of_none hc14 nb'), .inl ⟨by omega, _, (X17.addB hb' rb' (x := x) htx).at, ok_more ok (ok.bd x (List.mem_of_getElem? ex)) (by omega), ne_more⟩⟩
      intro z o ez n
      rw [upd_ne (ne_of_none ez nb')]
      exact sb17 z o ez n
    · rw [decide_eq_false (fun e => e4 (V.int.inj e))]
      refine iteF ⟨_, _, _, _, _, _, rfl, sb17, F17, ?_⟩
      rcases C17 with ⟨z, n⟩ | ⟨z, X17⟩
      · exact .inl ⟨by omega, n⟩
      · exact .inr ⟨by omega, X17⟩
  clear C17 F17 sb17
  rintro σ H17 ⟨y8, y9, y10, y11, y12, y13, rfl, sb17, F17, C17⟩
  rcases C17 with ⟨_, n, Mn, okn, nmn⟩ | ⟨z, _⟩
  case inr => omega
  have A17 := hall sb17 F17
  have ln := laid_of okn
  refine ⟨_, rfl, d', n, rfl, Mn, okn, fun ps H18 s18 nps Ws => ?_⟩
  have A18 := A17.same s18
  refine ⟨_, rfl, _, rfl, eq_web T A18.web Ws lm ln (fun e => absurd e nmn) (fun _ => ?_)⟩
  refine ⟨_, rfl, _, rfl, eq_web T Ws A18.web ln lm (fun e => absurd e.symm nmn) (fun _ => ?_)⟩
  refine ⟨_, rfl, _, rfl, ne_web T A18.web Ws lm ln (fun e => absurd e nmn) (fun _ => ?_)⟩
  refine ⟨(by show 3 ≤ sizeLine; decide), fun l1 n1 => ⟨(by show 3 ≤ sizeLine; decide), fun l2 n2 => ?_⟩⟩
  have sl1 := same_upd (o := .lst [.bl false, .bl false, .bl true]) n1
  have sl2 := same_upd (o := .lst [.bl false, .bl false, .bl true]) n2
  refine ⟨_, _, rfl, sm_lst (n := 6) (sl2 _ _ upd_same) upd_same rfl (by show 3 ≤ 1000; decide) (sm_flats (n := 5) rfl), fun H19 s19 => ⟨_, rfl, iteF ?_⟩⟩
  have A19 := A18.same ((sl1.trans sl2).trans s19)
  -- no list, no text, not None
  obtain ⟨o, u, b, ws, bs, h1, h2, h3, h4, h5, h6, h7⟩ := A19.md.ex
  obtain ⟨dx, _, _, _, _, _, g19, _⟩ := A19.web.ex
  refine ⟨_, rfl, _, rfl, d, _, rfl, mk_own h1, eq_lst T A19.web h2 ⟨_, rfl, iteF ?_⟩⟩
  refine ⟨_, rfl, _, rfl, p, dx, _, rfl, g19, p, m, rfl, A19.web, fun H20 s20 => ⟨_, rfl, eq_str T (A19.same s20).web ⟨_, rfl, iteF ?_⟩⟩⟩
  refine ⟨_, rfl, rfl, _, rfl, ?_⟩
  rw [decide_eq_false (show ¬ V.ref p = V.non from fun z => by cases z)]
  refine iteF ?_
  have A20 := A19.same s20
  refine ⟨_, rfl, f, c, 1, 1000, rfl, A20.fl, fun v H21 plv flv whv sb21 F21 => ?_⟩
  have A21 := A20.sb sb21 F21
  -- the refusals
  refine ⟨A21.tab, fun H22 e22 t22 => ?_⟩
  have A22 := A21.ext e22 t22
  refine ⟨_, rfl, fun x1 dx1 nx1 ndx1 ne1 => ⟨x1, v, rfl, plv, whv, fun e1 H23 s23 _ he1 => ⟨_, e1, _, _, _, .cBadBy v, rfl, rfl, he1, fun r1 nr1 => ?_⟩⟩⟩
  have m1 : Same H22 (upd (upd H22 dx1 (.own x1)) x1 (.ins (CW K) dx1 [])) := (same_upd ndx1).trans (same_upd (by rw [upd_ne ne1.symm]; exact nx1))
  have q1 := same_upd (o := .tup [.str "BadBy", v]) nr1
  have A24 := A22.same ((m1.trans s23).trans q1)
  generalize hH24 : upd H23 r1 (.tup [.str "BadBy", v]) = H24 at A24 q1 ⊢
  have hr1 : H24 r1 = some (.tup [.str "BadBy", v]) := by rw [← hH24]; exact upd_same
  clear hH24
  refine ⟨(by show 1 ≤ sizeLine; decide), fun L nL => ?_⟩
  have q2 := same_upd (o := .lst [.ref r1]) nL
  have A25 := A24.same q2
  have hr1 := q2 _ _ hr1
  have hL : (upd H24 L (.lst [.ref r1])) L = some (.lst [.ref r1]) := upd_same
  have E25 := ext_of q2
  generalize upd H24 L (.lst [.ref r1]) = H25 at A25 hr1 hL E25 ⊢
  -- with_by
  refine ⟨_, rfl, .inl ⟨rfl, _, .inl (.inl hL)⟩, A25.tab, fun H26 e26 t26 => ?_⟩
  have A26 := A25.ext e26 t26
  have hL := e26 _ _ hL (fun _ z => nomatch z)
  have hr1 := e26 _ _ hr1 (fun _ z => nomatch z)
  obtain ⟨dx2, _, _, _, _, _, g26, _⟩ := A26.web.ex
  refine ⟨_, rfl, p, dx2, _, rfl, g26, wf_no (by decide +kernel), _, rfl, p, m, v, rfl, A26.web, plv, whv, fun e2 H27 s27 _ he2 => ⟨_, e2, _, _, _, .cBadBy v, rfl, rfl, he2, fun r2 nr2 => ?_⟩⟩
  have q3 := s27.trans (same_upd (o := .tup [.str "BadBy", v]) nr2)
  have hr2 : (upd H27 r2 (.tup [.str "BadBy", v])) r2 = some (.tup [.str "BadBy", v]) := upd_same
  have hL := q3 _ _ hL
  have hr1 := q3 _ _ hr1
  have E28 := ext_same (ext_trans E25 e26) q3
  have t28 := tabs_same t26 q3
  generalize upd H27 r2 (.tup [.str "BadBy", v]) = H28 at hr2 hL hr1 E28 t28 ⊢
  refine ⟨L, _, _, rfl, rfl, hL, (by show 1 < sizeLine; decide), ?_⟩
  have nr1L : r1 ≠ L := ne_of hr1 hL (fun z => nomatch z)
  have nr2L : r2 ≠ L := ne_of hr2 hL (fun z => nomatch z)
  have hL2 : (upd H28 L (.lst ([.ref r1] ++ [.ref r2]))) L = some (.lst [.ref r1, .ref r2]) := upd_same
  have hr1 : (upd H28 L (.lst ([.ref r1] ++ [.ref r2]))) r1 = some (.tup [.str "BadBy", v]) := by rw [upd_ne nr1L]; exact hr1
  have hr2 : (upd H28 L (.lst ([.ref r1] ++ [.ref r2]))) r2 = some (.tup [.str "BadBy", v]) := by rw [upd_ne nr2L]; exact hr2
  have E29 := ext_put (o := .lst ([.ref r1] ++ [.ref r2])) E28 nL
  have t29 := tabs_sb t28 (Sb.upd (f := L) (o := .lst ([.ref r1] ++ [.ref r2]))) hL
  generalize upd H28 L (.lst ([.ref r1] ++ [.ref r2])) = H29 at hL2 hr1 hr2 E29 t29 ⊢
  clear hL
  -- by its name
  refine ⟨_, rfl, .inl ⟨rfl, _, .inl (.inl hL2)⟩, t29, fun H30 e30 t30 => ?_⟩
  have hL := e30 _ _ hL2 (fun _ z => nomatch z)
  have hr1 := e30 _ _ hr1 (fun _ z => nomatch z)
  have hr2 := e30 _ _ hr2 (fun _ z => nomatch z)
  refine ⟨_, rfl, rfl, rfl, fun x3 dx3 nx3 ndx3 ne3 => ⟨x3, v, rfl, plv, whv, fun e3 H31 s31 _ he3 => ⟨_, e3, _, _, _, .cBadBy v, rfl, rfl, he3, fun r3 nr3 => ?_⟩⟩⟩
  have m3 : Same H30 (upd (upd H30 dx3 (.own x3)) x3 (.ins (CW K) dx3 [])) := (same_upd ndx3).trans (same_upd (by rw [upd_ne ne3.symm]; exact nx3))
  have q4 := (m3.trans s31).trans (same_upd (o := .tup [.str "BadBy", v]) nr3)
  have hr3 : (upd H31 r3 (.tup [.str "BadBy", v])) r3 = some (.tup [.str "BadBy", v]) := upd_same
  have hL := q4 _ _ hL
  have hr1 := q4 _ _ hr1
  have hr2 := q4 _ _ hr2
  have E32 := ext_same (ext_trans E29 e30) q4
  have t32 := tabs_same t30 q4
  generalize upd H31 r3 (.tup [.str "BadBy", v]) = H32 at hr3 hL hr1 hr2 E32 t32 ⊢
  refine ⟨L, _, _, rfl, rfl, hL, (by show 2 < sizeLine; decide), ?_⟩
  have nr1L : r1 ≠ L := ne_of hr1 hL (fun z => nomatch z)
  have nr2L : r2 ≠ L := ne_of hr2 hL (fun z => nomatch z)
  have nr3L : r3 ≠ L := ne_of hr3 hL (fun z => nomatch z)
  have hL3 : (upd H32 L (.lst ([.ref r1, .ref r2] ++ [.ref r3]))) L = some (.lst [.ref r1, .ref r2, .ref r3]) := upd_same
  have hr1 : (upd H32 L (.lst ([.ref r1, .ref r2] ++ [.ref r3]))) r1 = some (.tup [.str "BadBy", v]) := by rw [upd_ne nr1L]; exact hr1
  have hr2 : (upd H32 L (.lst ([.ref r1, .ref r2] ++ [.ref r3]))) r2 = some (.tup [.str "BadBy", v]) := by rw [upd_ne nr2L]; exact hr2
  have hr3 : (upd H32 L (.lst ([.ref r1, .ref r2] ++ [.ref r3]))) r3 = some (.tup [.str "BadBy", v]) := by rw [upd_ne nr3L]; exact hr3
  have E33 := ext_put (o := .lst ([.ref r1, .ref r2] ++ [.ref r3])) E32 nL
  have t33 := tabs_sb t32 (Sb.upd (f := L) (o := .lst ([.ref r1, .ref r2] ++ [.ref r3]))) hL
  generalize upd H32 L (.lst ([.ref r1, .ref r2] ++ [.ref r3])) = H33 at hL3 hr1 hr2 hr3 E33 t33 ⊢
  have A33 := A24.ext E33 t33
  clear hL
  refine ⟨_, rfl, rfl, rfl, fun x4 dx4 nx4 ndx4 ne4 => ⟨x4, dx4, 7, rfl, upd_same, by decide, by decide, fun a0 b0 c0 H34 kp hp _ _ _ => ⟨rfl, x4, CW K, dx4, _, _, rfl, hp, cl_Web T, na_by T, wf_by, (by show 1 ≤ sizeLine; decide), fun L2 nL2 => ?_⟩⟩⟩
  have p1 := (Same.made nx4 ndx4 kp).trans (same_upd (o := .lst [.int 7]) nL2)
  refine ⟨L, L2, _, _, rfl, rfl, p1 _ _ hL3, upd_same, by show 3 + 1 ≤ sizeLine; decide, fun L3 nL3 => ?_⟩
  have p2 := p1.trans (same_upd (o := .lst ([.ref r1, .ref r2, .ref r3] ++ [.int 7])) nL3)
  have hL4 : (upd (upd H34 L2 (.lst [.int 7])) L3 (.lst ([.ref r1, .ref r2, .ref r3] ++ [.int 7]))) L3 = some (.lst [.ref r1, .ref r2, .ref r3, .int 7]) := upd_same
  generalize upd (upd H34 L2 (.lst [.int 7])) L3 (.lst ([.ref r1, .ref r2, .ref r3] ++ [.int 7])) = H35 at hL4 p2 ⊢
  refine ⟨_, rfl, (by show 2 ≤ sizeLine; decide), fun u1 nu1 => ⟨(by show 1 ≤ sizeLine; decide), fun M1 nM1 => ?_⟩⟩
  have p3 := (same_upd (o := .tup [.str "BadBy", v]) nu1).trans (same_upd (o := .lst [.ref u1]) nM1)
  have hu1 := (same_upd (o := .lst [.ref u1]) nM1) _ _ (upd_same (H := H35) (a := u1) (o := .tup [.str "BadBy", v]))
  refine ⟨M1, 3, _, rfl, rfl, upd_same, by decide, by decide, by show 1 * 3 ≤ sizeLine; decide, fun M2 nM2 => ?_⟩
  have p4 := p3.trans (same_upd (o := .lst [.ref u1, .ref u1, .ref u1]) nM2)
  have hu2 := (same_upd (o := .lst [.ref u1, .ref u1, .ref u1]) nM2) _ _ hu1
  refine ⟨(by show 1 ≤ sizeLine; decide), fun M3 nM3 => ?_⟩
  have p5' := same_upd (o := .lst [.int 7]) nM3
  refine ⟨M2, M3, _, _, rfl, rfl, p5' _ _ upd_same, upd_same, by show 3 + 1 ≤ sizeLine; decide, fun M4 nM4 => ?_⟩
  have p6 := p5'.trans (same_upd (o := .lst [.ref u1, .ref u1, .ref u1, .int 7]) nM4)
  have hu3 := p6 _ _ hu2
  have q8 := p4.trans p6
  refine ⟨_, _, rfl, sm_lst (n := 6) (q8 _ _ hL4) upd_same rfl (by show 4 ≤ 1000; decide) (fun j x y hx hy => ?_), fun H36 s36 => ?_⟩
  · have okv : Sm 6 (.ref r1) (.ref u1) _ := sm_two (n := 4) (q8 _ _ (p2 _ _ hr1)) hu3 rfl flv
    have okv2 : Sm 6 (.ref r2) (.ref u1) _ := sm_two (n := 4) (q8 _ _ (p2 _ _ hr2)) hu3 rfl flv
    have okv3 : Sm 6 (.ref r3) (.ref u1) _ := sm_two (n := 4) (q8 _ _ (p2 _ _ hr3)) hu3 rfl flv
    match j, hx, hy with
    | 0, hx, hy =>
      cases hx
      cases hy
      exact okv
    | 1, hx, hy =>
      cases hx
      cases hy
      exact okv2
    | 2, hx, hy =>
      cases hx
      cases hy
      exact okv3
    | 3, hx, hy =>
      cases hx
      cases hy
      exact sm_flats (n := 5) (xs := [.int 7]) rfl 0 _ _ rfl rfl
    | j + 4, hx, hy => cases hx
  have s3336 := (p2.trans q8).trans s36
  have A36 := A33.same s3336
  refine ⟨_, rfl, iteT ?_⟩
  exact ⟨_, rfl, _, rfl, p, d, m, rfl, A36.web, A36.md, fun H37 s37 => q H37⟩
end
end Tw

set_option maxHeartbeats 0
namespace Tw
open PySem PySem.Spec PyProof.Rows L2
theorem facts {l : PySem.W.OpenLaw} {w : World} {K : PySem.W.Frag} {h : Heap} {mg : Str → Option Value} {f : Addr} (X : K.In h) (G : h.Ns mainGlobals mg) (hfa : mg ("law" : Str) = some (.ref f)) (c : SaysY fa fn tf ex h K) : LamX.LawAtS l w K CX0 12 63 "_law_script" mg f h := by
  have T : Tp K mg := tp_mk X G c.d c.more
  have e := hfa.symm.trans (g_law T)
  cases e
  obtain ⟨fd, F⟩ := f_law T
  have b := FunD.bindsA (ps := ["_law_script"]) F fun _ _ _ _ _ _ us hl => match us, hl with
    | [_], _ => rfl
  have m : (("law" : Str), (none : Option Str)) ∈ tf := List.mem_cons_self
  have one : ∀ {R : Addr × Addr → Prop}, R (He.cT K ("law", none)) → ∀ p ∈ [He.cT K ("law", none)], R p := fun hR p hp => by
    rw [List.mem_singleton.mp hp]
    exact hR
  exact ⟨fd, [He.cT K ("law", none)], sp_law K, one (c.empty _ m), one (c.out _ m), one (PySem.W.codeHd_of_K X (c.code _ m)), fun s v => b s [v] rfl, fun H a ns _ _ hH hS => ⟨a, ns, rfl, hS, hH _ List.mem_cons_self, fun _ => rfl⟩,
    fun base _ _ hT => ok_law T (hT _ List.mem_cons_self) F⟩
end Tw
open PySem PySem.W PySem.Calls PyProof.Rows
theorem PySem.Challenge.cw_tidewaiter_k06_webs_alike_holds : PySem.Challenge.rw_tidewaiter_k06_webs_alike.Holds := by
  w_on; o_law
  refine HandSHeadRun.head_any (r := Tw.R) (q := view Tw.R.prog [Tw.lawAt]) (H := Tw.hk) (ob := Tw.ob) (M := 20000) (loose := Tw.loose) (d := HandSHeadRun.topDef Tw.R.prog Tw.lawAt) (kwd := []) Tw.ob_eq
    (by kernel_rfl) (fun s => by kernel_rfl) Tw.run (by kernel_rfl) (by kernel_rfl) (by kernel_rfl) (by rfl) (by first | assumption | decide +kernel) (by decide +kernel) ⟨rfl, rfl, rfl, rfl, rfl, by decide +kernel⟩ ?hw ?hc
  case hw => w_witness2
  case hc =>
    refine LamX.walk_ofTsE (l := PySem.Challenge.rw_tidewaiter_k06_webs_alike) (n := 63) (k := 12) (x := "_law_script") (CX := fun _ => L2.CX0) rfl (by decide) (by kernel_rfl) ⟨rfl, by decide, by decide⟩ ?F (fun _ _ _ _ _ z => z)
    intro w mg fa h Y G hmg0
    obtain ⟨K, KX, c⟩ := Y
    have hmg : mg ("law" : PySem.Str) = some (.ref fa) := by
      have e : (HandSHeadRun.topDef Tw.R.prog Tw.lawAt).name = ("law" : PySem.Str) := by kernel_rfl
      rw [← e]
      exact hmg0
    exact ⟨K, KX, Tw.facts KX G hmg c⟩


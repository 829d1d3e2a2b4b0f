import PyProof.Rows.All
import Wide.All
import OpenK.AllK
import Wide.FinOn
import KE.KStateDown
import HandS.ForMost
import HandS.IsInst
import HandS.FStr
import HandS.Star
import HandS.Style
import HandS.Codes
import HandS.Walk
import HandS.Defaults
import HandS.MakeKw
import HandS.SlotsOwn
import HandS.HeadEnd
import HandS.HeadHook1
import HandS.HeadHook2
import HandS.Head0
import HandS.Head1
import HandS.Head2
import PyProof.DictUpdate
import HandS.Dict
import HandS.TupAny
import HandS.WordsDict
import PySem.Challenge.RW_tidewaiter_k42_deaf_webs_and_corners
set_option Elab.async false
set_option linter.all false
set_option maxRecDepth 100000
set_option maxHeartbeats 4000000
/-! rules of our own over the layer: a def's promise out of its place in the top (the promises themselves are C8's), methods called with keywords, len and repr of an own instance -/
namespace Tw
open PySem PySem.Spec PyProof.Rows L2
section
variable (P : Program) (w : World) (K : PySem.W.Frag) (mg : Str → Option Value) (base : Heap)
/-- the library's promises of a def and of a method, where every parameter is handed in -/
abbrev Cal (k : Nat) (x : Str) (sp : Sp) : Prop := C8.Cal P w K mg base k x sp []
abbrev Met (k : Nat) (C : Addr) (m : Str) (sp : Sp) : Prop := C8.Met P w K mg base k C m sp []
abbrev Mak (k : Nat) (x : Str) (C : Addr) (sp : Sp) (dvs : List V) : Prop := C8.Mak P w K mg base k x C sp dvs
/-- what is owed for a body: it can be read, and under the promise's premise its reading does what the promise tells -/
abbrev BodyOk (k : Nat) (N : List Str) (qual : Str) (body : List Stmt) (scope : Scope) (f : Addr) (sp : Sp) : Prop :=
  ∀ (cdv : Value) (A : Around) (outer : List Env) (s : Shared) (H : Hp) (vs : List V) (Q : VK) (E : XK), Room k (A.deeper (envOfC qual scope s.heap.objs.size f cdv)) → sp vs H Q E →
      ∃ t, PSs (cxOf CX0 P w K mg base N qual scope f cdv A outer s H E).nox body t ∧ t { nx := fun _ H' => Q .non H', rt := Q } (start N vs) H
/-- a method of C for n positional values (self among them) and the keywords ks; gV puts them into the parameters' order -/
structure MetG (CX : CXT) (k : Nat) (C : Addr) (m : Str) (sp : Sp) (n : Nat) (ks : List Str) (gV : List V → List V → List V) : Prop where
  ex : ∃ (f : Addr) (fd : FuncData) (ps : List Str) (g : List Value → List Value → List Value), Cls K C ∧ Meth K C m f ∧ FnOk P w K mg base CX k f fd ps sp ∧ KBn K fd ps n ks g gV
abbrev MetN (k : Nat) (C : Addr) (m : Str) (sp : Sp) (n : Nat) (ks : List Str) : Prop := MetG P w K mg base CX0 k C m sp n ks (fun us ws => us ++ ws)
end
section
variable {P : Program} {w : World} {K : PySem.W.Frag} {mg : Str → Option Value} {base : Heap} {x qual : Str} {C f : Addr} {params : Arguments} {body : List Stmt} {scope : Scope} {dvs : List V} {kws : List (Str × V)} {fd : FuncData} {N ps ks : List Str} {k n : Nat} {sp : Sp}
theorem fnok_of (F : FunD K x qual params body scope dvs kws f fd) (S : FnScope N ps scope) (len : ∀ vs H Q E, sp vs H Q E → vs.length = ps.length) (owed : BodyOk P w K mg base k N qual body scope f sp) : FnOk P w K mg base CX0 (k + 1) f fd ps sp :=
  F.ok S len fun cdv A outer s H vs Q E room h => (owed cdv A outer s H vs Q E room h).imp fun _ p => ⟨p.1.nox, p.2⟩
theorem cal_of (F : FunD K x x params body scope [] [] f fd) (hm : mg x = some (.ref f)) (b : Binds K fd ps []) (S : FnScope N ps scope) (len : ∀ vs H Q E, sp vs H Q E → vs.length = ps.length) (owed : BodyOk P w K mg base k N x body scope f sp) : Cal P w K mg base (k + 1) x sp :=
  ⟨f, fd, ps, [], fnok_of F S len owed, hm, F.kp, b, .nil⟩
theorem met_of (F : FunD K x qual params body scope dvs kws f fd) (c : Cls K C) (me : Meth K C x f) (b : Binds K fd ps []) (S : FnScope N ps scope) (len : ∀ vs H Q E, sp vs H Q E → vs.length = ps.length) (owed : BodyOk P w K mg base k N qual body scope f sp) : Met P w K mg base (k + 1) C x sp :=
  ⟨f, fd, ps, [], c, me, fnok_of F S len owed, b, .nil⟩
/-- no defaults: the handed values, put in order by g, are the parameters -/
theorem kbn_by (F : FunD K x qual params body scope [] kws f fd) (g : {α : Type} → List α → List α → List α) (hrel : ∀ {vs zs : List V} {us ws : List Value}, Vals vs us → Vals zs ws → Vals (g vs zs) (g us ws))
    (h : ∀ (kV doc pm : Value) (an : Option Addr) (cdv ct : Value) (us ws : List Value), us.length = n → ws.length = ks.length → bindArgs (PySem.W.fnOf x qual params body scope .none kV doc pm an cdv ct) ⟨us, ks.zip ws⟩ = pure (ps.zip (g us ws))) :
    KBn K fd ps n ks (fun us ws => g us ws) (fun us ws => g us ws) := by
  obtain ⟨_, _, _, kV, doc, pm, an, cdv, ct, _, rfl, _, _, none_ | ⟨some_, _⟩, _⟩ := F.ex
  · cases none_.2
    exact ⟨fun _ us ws _ l1 l2 => .of_eq (h kV doc pm an cdv ct us ws l1 l2), hrel⟩
  · cases some_ rfl
theorem kbn_of (F : FunD K x qual params body scope [] kws f fd)
    (h : ∀ (kV doc pm : Value) (an : Option Addr) (cdv ct : Value) (us ws : List Value), us.length = n → ws.length = ks.length → bindArgs (PySem.W.fnOf x qual params body scope .none kV doc pm an cdv ct) ⟨us, ks.zip ws⟩ = pure (ps.zip (us ++ ws))) :
    KBn K fd ps n ks (fun us ws => us ++ ws) (fun us ws => us ++ ws) := kbn_by F (fun us ws => us ++ ws) (fun r1 r2 => r1.append r2) h
end
section
variable {X : Cx} {CX : CXT} {k j n : Nat} {C : Addr} {x m : Str} {sp : Sp} {dvs : List V} {p pos apos : Pos} {e o : Expr} {es : List Expr} {ta : TE} {t tk : TA} {ks : List Str} {kws : List Keyword} {gV : List V → List V → List V} {E : XK} {pl : Sem Bool}
/-- C() with all its parameters left out -/
theorem pe_mk0 (c : Mak X.prog X.w X.K X.mg X.base k x C sp dvs) (hr : Room j X.A) (hk : k + 1 ≤ j) (hg : Gl X x) (hdb : (x == ("__debug__" : Str)) = false := by decide) : PE X (.Call (.Name x p) [] [] pos) (tMake C sp dvs E0 tNil) :=
  let ⟨_, _, _, _, made, F, at_, b, d⟩ := c.ex
  pe_make0 made F (hr.mono hk) hg at_ b d pass0 hdb
/-- the text o.m(e, .., k = v, ..) has no star, names its keywords ks, and goes these steps -/
structure KwForm (X : Cx) (pl : Sem Bool) (o e : Expr) (es : List Expr) (kws : List Keyword) (m : Str) (apos pos : Pos) (ks : List Str) : Prop where
  named : (backToKw pos (keywordEach kws X.env)).all (·.1.isSome) = true
  names : (backToKw pos (keywordEach kws X.env)).filterMap (·.1) = ks
  first : starEach (e :: es) X.env = (false, eval e X.env) :: starEach es X.env
  plain : ((backTo pos (starEach (e :: es) X.env)).any (·.1) || (backToKw pos (keywordEach kws X.env)).any (·.1.isNone)) = false
  steps : eval (.Call (.Attribute o m apos) (e :: es) kws pos) X.env =
    (eval o X.env >>= fun ov => standAt apos.atName >>= fun _ => holding [ov] (getMethod ov m pl) >>= fun g => callWith pos g.1 g.2 (backTo pos (starEach (e :: es) X.env)) (backToKw pos (keywordEach kws X.env)))
def tMethG (C : Addr) (m : Str) (n nk : Nat) (sp : Sp) (gV : List V → List V → List V) (E : XK) (ta : TE) (t tk : TA) : TE := fun σ H Q => ta σ H fun x H1 => ∃ a dx fs, x = .ref a ∧ H1 a = some (.ins C dx fs) ∧ fs.lookup m = none ∧
  t σ H1 fun vs H2 => tk σ H2 fun zs H3 => vs.length + 1 = n ∧ zs.length = nk ∧ sp (gV (x :: vs) zs) H3 Q E
theorem pe_mg (c : MetG X.prog X.w X.K X.mg X.base CX k C m sp n ks gV) (hx : Passes CX X E) (hr : Room j X.A) (hk : k ≤ j) (he : PE X o ta) (ha : PA X (e :: es) t) (hkw : PK X kws tk) (form : KwForm X pl o e es kws m apos pos ks) :
    PE X (.Call (.Attribute o m apos) (e :: es) kws pos) (tMethG C m n ks.length sp gV E ta t tk) := by
  obtain ⟨f, fd, ps, g, cls, me, F, kb⟩ := c.ex
  obtain ⟨named, rfl, first, plain, steps⟩ := form
  constructor
  intro pins s σ H Q I h
  refine PySem.W.methodCall_KW (pl := pl) (thn (he.run pins s σ H _ I h) ?_) steps
  rintro _ s1 ⟨_, H1, I1, obj, a, dx, fs, rfl, here, own, q⟩
  cases (show _ = Value.ref a from obj)
  refine getmeth_ok I1 here cls me own (PySem.W.callWith_KW (first := [.ref a]) (h₀ := X.base) I.ok.mod.kin me.kp named (thn (ha.run pos pins s1 σ H1 _ I1 q) ?_) plain first)
  rintro us s2 ⟨vs, H2, I2, rv, q2⟩
  refine thn (hkw.run pos pins s2 σ H2 _ I2 q2) ?_
  rintro ws s3 ⟨zs, H3, I3, rz, ln, lk, q3⟩
  exact ⟨I3.kIn, run_fnN (us := .ref a :: us) (vs := .ref a :: vs) F (hr.mono hk) kb hx I3 (.cons rfl rv) rz ln lk q3⟩
/-- .. where the method raises nothing -/
theorem pe_mg0 (c : MetG X.prog X.w X.K X.mg X.base CX0 k C m sp n ks gV) (hr : Room j X.A) (hk : k ≤ j) (he : PE X o ta) (ha : PA X (e :: es) t) (hkw : PK X kws tk) (form : KwForm X pl o e es kws m apos pos ks := by exact ⟨rfl, rfl, rfl, rfl, rfl⟩) :
    PE X (.Call (.Attribute o m apos) (e :: es) kws pos) (tMethG C m n ks.length sp gV E0 ta t tk) := pe_mg c pass0 hr hk he ha hkw form
/-- an own method without values, as a builtin finds and runs it -/
theorem own0 (c : Met X.prog X.w X.K X.mg X.base k C m sp) : ∃ f, PySem.W.findIn X.K (.ref C) m = some (some (.ref f)) ∧ PySem.W.isFn X.K (.ref f) = true ∧ FnR X.prog X.w X.K X.mg X.base CX0 k f sp := by
  obtain ⟨f, _, _, _, _, me, F, b, d⟩ := c.ex
  exact ⟨f, me.at_, me.fn, (F.raw b d).imp fun vs _ _ _ h => (List.append_nil vs).symm ▸ h⟩
/-- len(o) by an own __len__ -/
def rLenO (C : Addr) (sp : Sp) : List V → Hp → VK → Prop := fun xs H Q => ∃ a dx fs, xs = [.ref a] ∧ H a = some (.ins C dx fs) ∧ sp [.ref a] H (fun v H' => ∃ i : Int, v = .int i ∧ 0 ≤ i ∧ i < 2 ^ 63 ∧ Q (.int i) H') E0
theorem call_lenO (c : Met X.prog X.w X.K X.mg X.base k C "__len__" sp) (hr : Room j X.A) (hk : k + 1 ≤ j) : CallR X (.builtin "len") (rLenO C sp) := by
  rintro pins s σ H _ us Q I r ⟨a, dx, fs, rfl, here, q⟩
  obtain rfl := Vals.ref1 r
  obtain ⟨f, hs, hf, F⟩ := own0 c
  obtain ⟨_, J0, _⟩ := ins_get I.hok here
  obtain ⟨_, J, _⟩ := J0.look
  obtain ⟨_, hF⟩ := I.fr
  refine PySem.W.len_K hF I.ok.mod.kin J hs hf (thn (wpAny_call (SlX.run_at F (hr.mono hk).in1 I.env0.in1 pass0 I r q)) ?_)
  rintro _ s1 ⟨_, H1, I1, rv, i, rfl, low, high, q1⟩
  obtain ⟨_, rfl⟩ := rv
  exact ⟨⟨low, high⟩, .int i, H1, I1.tok _, ⟨_, rfl⟩, q1⟩
/-- repr(o) by an own __repr__ -/
def rReprO (C : Addr) (sp : Sp) : List V → Hp → VK → Prop := fun xs H Q => ∃ a dx fs, xs = [.ref a] ∧ H a = some (.ins C dx fs) ∧ sp [.ref a] H (fun v H' => ∃ z : Str, v = .str z ∧ Q (.str z) H') E0
theorem call_reprO (c : Met X.prog X.w X.K X.mg X.base k C "__repr__" sp) (hr : Room j X.A) (hk : k + 1 ≤ j) : CallR X (.builtin "repr") (rReprO C sp) := by
  rintro pins s σ H _ us Q I r ⟨a, dx, fs, rfl, here, q⟩
  obtain rfl := Vals.ref1 r
  obtain ⟨f, hs, hf, F⟩ := own0 c
  obtain ⟨_, J0, _⟩ := ins_get I.hok here
  obtain ⟨_, J, _⟩ := J0.look
  obtain ⟨_, hF⟩ := I.fr
  have room : Room k X.A.in1 := (hr.mono hk).in1
  refine PySem.W.repr_K room.units0 hF I.ok.mod.kin J hs hf (thn (wpAny_call (SlX.run_at F room I.env0.in1 pass0 I r q)) ?_)
  rintro _ s1 ⟨_, H1, I1, rv, z, rfl, q1⟩
  obtain ⟨_, rfl⟩ := rv
  exact ⟨.str z, H1, I1, ⟨_, rfl⟩, q1⟩
end
end Tw

set_option maxHeartbeats 4000000
/-! what the program's and the law's data are, and what heaps keep -/
namespace Tw
open PySem PySem.Spec PyProof.Rows L2
theorem bb_len : bootBuiltins "len" = some (.builtin "len") := by decide +kernel
theorem bb_all : bootBuiltins "all" = some (.builtin "all") := by decide +kernel
theorem bb_abs : bootBuiltins "abs" = some (.builtin "abs") := by decide +kernel
theorem bb_repr : bootBuiltins "repr" = some (.builtin "repr") := by decide +kernel
theorem bb_isinstance : bootBuiltins "isinstance" = some (.builtin "isinstance") := by decide +kernel
theorem bb_list : bootBuiltins "list" = some (.type "list") := by decide +kernel
theorem bb_tuple : bootBuiltins "tuple" = some (.type "tuple") := by decide +kernel
theorem bb_str : bootBuiltins "str" = some (.type "str") := by decide +kernel
theorem bb_bool : bootBuiltins "bool" = some (.type "bool") := by decide +kernel
theorem bb_int : bootBuiltins "int" = some (.type "int") := by decide +kernel
theorem bb_dict : bootBuiltins "dict" = some (.type "dict") := by decide +kernel
/-! isinstance with a built-in class -/
def kitT : String → String → Bool
  | "bool", "bool" => true
  | "bool", "int" => true
  | "int", "int" => true
  | "str", "str" => true
  | "list", "list" => true
  | "tuple", "tuple" => true
  | "dict", "dict" => true
  | _, _ => false
def kinds : List String := ["NoneType", "bool", "int", "str", "list", "tuple", "dict"]
theorem kitB_all : (kinds.all fun a => (kinds.drop 1).all fun b => decide (kitB a b = some (kitT a b))) = true := by decide +kernel
theorem kitB_of {a b : String} (ha : a ∈ kinds) (hb : b ∈ kinds.drop 1) : kitB a b = some (kitT a b) :=
  of_decide_eq_true (List.all_eq_true.mp (List.all_eq_true.mp kitB_all a ha) b hb)
/-- isinstance(x, T): the reading asks the kind of x -/
def rIsK (K : PySem.W.Frag) : List V → Hp → VK → Prop := fun xs H Q => ∃ (x : V) (n a : String), xs = [x, .ty n] ∧ TyX K H x (.type a) ∧ a ∈ kinds ∧ n ∈ kinds.drop 1 ∧ Q (.bl (kitT a n)) H
theorem call_isK {X : Cx} : CallR X (.builtin "isinstance") (rIsK X.K) := by
  intro pins s σ H xs us Q I r h
  obtain ⟨x, n, a, rfl, ty, ha, hn, q⟩ := h
  exact call_isi pins s σ H _ us Q I r ⟨x, .ty n, .type a, .type n, kitT a n, rfl, .ty n, ty, kit_ty (kitB_of ha hn), q⟩
/-! the same rules inside a comprehension's block, where the written part is the def's -/
section
variable {X : Cx} {K : PySem.W.Frag}
theorem ix_tupK (h : X.K = K) : IxR X (rIxT K) := h ▸ ix_tup
theorem ix_listK (h : X.K = K) : IxR X (rIxL K) := h ▸ ix_list
theorem ix_seqK (h : X.K = K) : IxR X (rIx K) := h ▸ ix_seq
theorem op_in_seqK (h : X.K = K) : OpR X (compareOp .In) (rIn K false) := h ▸ op_in_seq
theorem op_notIn_seqK (h : X.K = K) : OpR X (compareOp .NotIn) (rIn K true) := h ▸ op_notIn_seq
theorem call_len_seqK (h : X.K = K) : CallR X (.builtin "len") (fun xs H Q => ∃ p ys, xs = [.ref p] ∧ (SqL K H p ys ∨ SqT K H p ys) ∧ Q (.int ys.length) H) := h ▸ call_len_seq
theorem call_isKK (h : X.K = K) : CallR X (.builtin "isinstance") (rIsK K) := h ▸ call_isK
theorem pe_fldK {e : Expr} {f : Str} {ta : TE} {pos : Pos} (h : X.K = K) (ha : PE X e ta) (hb : attributeBase e f X.env (eval e X.env) = eval e X.env) : PE X (.Attribute e f pos) (tFld K ta f) := h ▸ pe_fld ha hb
theorem pg_tupK {es : List Expr} {k : Nat} {t : TGs} {n : Nat} {pos : Pos} (h : X.K = K) (hc : X.calm = true) (hg : PGs X es t) (hn : (assignEach es X.env).length = n := by rfl) (hst : (assignEach es X.env).findIdx? (·.1) = none := by rfl) : PG X (.Tuple es k pos) (gTup K n t) := h ▸ pg_tup hc hg hn hst
end
theorem yes_i {σ : L2.St} {H : Hp} {Q : Bool → Hp → Prop} (h : Q true H) : tYes σ H Q := h
/-! ### heaps -/
theorem same_upd {H : Hp} {p : Addr} {o : HO} (h : H p = none) : Same H (upd H p o) := fun b x e => by
  rw [upd_ne (ne_of_none e h)]
  exact e
/-- all but the place f stays -/
def Sb (f : Addr) (H H' : Hp) : Prop := ∀ b o, H b = some o → b ≠ f → H' b = some o
theorem Sb.refl {f : Addr} {H : Hp} : Sb f H H := fun _ _ h _ => h
theorem Sb.of {f : Addr} {H H' : Hp} (s : Same H H') : Sb f H H' := fun b o h _ => s b o h
theorem Sb.trans {f : Addr} {H H1 H2 : Hp} (a : Sb f H H1) (b : Sb f H1 H2) : Sb f H H2 := fun c o h n => b c o (a c o h n) n
theorem Sb.upd {f : Addr} {H : Hp} {o : HO} : Sb f H (upd H f o) := fun b x e n => by
  rw [upd_ne n]
  exact e
/-- tuples stay -/
def Kt (H H' : Hp) : Prop := ∀ b xs, H b = some (.tup xs) → H' b = some (.tup xs)
theorem Kt.of {H H' : Hp} (s : Same H H') : Kt H H' := fun b _ h => s b _ h
theorem Kt.trans {H H1 H2 : Hp} (a : Kt H H1) (b : Kt H1 H2) : Kt H H2 := fun c o h => b c o (a c o h)
theorem Sb.kt {f : Addr} {H H' : Hp} {xs : List V} (s : Sb f H H') (hf : H f = some (.lst xs)) : Kt H H' := fun b _ h => s b _ h (ne_of h hf (by intro z; cases z))
theorem Kt.upd {H : Hp} {p : Addr} {o : HO} (h : ∀ xs, H p = some (.tup xs) → o = .tup xs) : Kt H (upd H p o) := fun b xs e => by
  by_cases hb : b = p
  · subst hb
    rw [upd_same, h xs e]
  · rw [upd_ne hb]
    exact e
/-! ### the data -/
structure Wd where
  en : Str
  bg : Str
  lo : Int
  hi : Int
  la : Option Int
structure Bd where
  one : Str
  oth : Str
  bot : Option Int
  top : Option Int
/-- a web as the law keeps it -/
structure Md where
  last : Int
  own : List Str
  wd : List Wd
  bd : List Bd
def oV : Option Int → V
  | none => .non
  | some i => .int i
def Wd.row (x : Wd) : List V := [.str x.en, .str x.bg, .int x.lo, .int x.hi, oV x.la]
def Bd.row (x : Bd) : List V := [.str x.one, .str x.oth, oV x.bot, oV x.top]
def Md.pts (m : Md) : List Str := "start" :: (m.own ++ m.wd.map (·.en))
/-- tuples stand at these places -/
def Rows (H : Hp) (xs : List V) (rs : List (List V)) : Prop := Paired (fun x r => ∃ t, x = V.ref t ∧ H t = some (.tup r)) xs rs
theorem Rows.keep {H H' : Hp} (k : Kt H H') {xs : List V} {rs : List (List V)} (h : Rows H xs rs) : Rows H' xs rs := Paired.mono (fun _ _ ⟨t, e, ht⟩ => ⟨t, e, k t _ ht⟩) h
theorem Rows.len {H : Hp} {xs : List V} {rs : List (List V)} (h : Rows H xs rs) : xs.length = rs.length := Paired.length h
theorem Rows.snoc {H : Hp} {xs : List V} {rs : List (List V)} {t : Addr} {r : List V} (h : Rows H xs rs) (e : H t = some (.tup r)) : Rows H (xs ++ [.ref t]) (rs ++ [r]) := Paired.snoc h ⟨t, rfl, e⟩
theorem paired_at {α β : Type} {F : α → β → Prop} : ∀ {l : List α} {m : List β} {i : Nat} {a : α}, Paired F l m → l[i]? = some a → ∃ b, m[i]? = some b ∧ F a b
  | _, _, 0, _, .cons h _, e => by
    cases e
    exact ⟨_, rfl, h⟩
  | _, _, i + 1, a, .cons _ t, e => by
    obtain ⟨b, h1, h2⟩ := paired_at (i := i) t e
    exact ⟨b, h1, h2⟩
theorem Rows.at {H : Hp} {xs : List V} {rs : List (List V)} {i : Nat} {x : V} (h : Rows H xs rs) (e : xs[i]? = some x) : ∃ t r, x = .ref t ∧ rs[i]? = some r ∧ H t = some (.tup r) := by
  obtain ⟨r, h1, t, h2, h3⟩ := paired_at h e
  exact ⟨t, r, h2, h1, h3⟩
/-- a Web's attributes -/
def wf (last : Int) (a b c : Addr) : List (Str × V) := [("by", .int last), ("moment_rows", .ref a), ("span_rows", .ref b), ("tie_rows", .ref c)]
theorem wf_by {l : Int} {a b c : Addr} : (wf l a b c).lookup ("by" : Str) = some (.int l) := by
  unfold wf
  rw [List.lookup_cons_self]
theorem wf_m {l : Int} {a b c : Addr} : (wf l a b c).lookup ("moment_rows" : Str) = some (.ref a) := by
  unfold wf
  rw [List.lookup_cons, show (("moment_rows" : Str) == "by") = false by decide +kernel, List.lookup_cons_self]
theorem wf_s {l : Int} {a b c : Addr} : (wf l a b c).lookup ("span_rows" : Str) = some (.ref b) := by
  unfold wf
  rw [List.lookup_cons, show (("span_rows" : Str) == "by") = false by decide +kernel, List.lookup_cons, show (("span_rows" : Str) == "moment_rows") = false by decide +kernel, List.lookup_cons_self]
theorem wf_t {l : Int} {a b c : Addr} : (wf l a b c).lookup ("tie_rows" : Str) = some (.ref c) := by
  unfold wf
  rw [List.lookup_cons, show (("tie_rows" : Str) == "by") = false by decide +kernel, List.lookup_cons, show (("tie_rows" : Str) == "moment_rows") = false by decide +kernel, List.lookup_cons, show (("tie_rows" : Str) == "span_rows") = false by decide +kernel, List.lookup_cons_self]
def webAttrs : List Str := ["by", "moment_rows", "span_rows", "tie_rows"]
theorem wf_no {l : Int} {a b c : Addr} {m : Str} (h : webAttrs.all (fun x => !(m == x)) = true) : (wf l a b c).lookup m = none := by
  unfold webAttrs at h
  simp only [List.all_cons, List.all_nil, Bool.and_true, Bool.and_eq_true, Bool.not_eq_true'] at h
  obtain ⟨h1, h2, h3, h4⟩ := h
  unfold wf
  rw [List.lookup_cons, h1, List.lookup_cons, h2, List.lookup_cons, h3, List.lookup_cons, h4]
  rfl
/-- a web stands at p -/
structure WebAt (C : Addr) (H : Hp) (p : Addr) (m : Md) : Prop where
  ex : ∃ (dx a b c : Addr) (ws bs : List V), H p = some (.ins C dx (wf m.last a b c)) ∧ H a = some (.tup (m.own.map V.str)) ∧ H b = some (.tup ws) ∧ Rows H ws (m.wd.map Wd.row) ∧ H c = some (.tup bs) ∧ Rows H bs (m.bd.map Bd.row)
  len : m.own.length ≤ 10 ∧ m.wd.length ≤ 4 ∧ m.bd.length ≤ 40
  last : 1 ≤ m.last ∧ m.last ≤ 1000
theorem WebAt.keep {C : Addr} {H H' : Hp} {p : Addr} {m : Md} (h : WebAt C H p m) (hp : ∀ dx fs, H p = some (.ins C dx fs) → H' p = some (.ins C dx fs)) (k : Kt H H') : WebAt C H' p m := by
  obtain ⟨dx, a, b, c, ws, bs, h1, h2, h3, h4, h5, h6⟩ := h.ex
  exact ⟨⟨dx, a, b, c, ws, bs, hp _ _ h1, k _ _ h2, k _ _ h3, h4.keep k, k _ _ h5, h6.keep k⟩, h.len, h.last⟩
theorem WebAt.same {C : Addr} {H H' : Hp} {p : Addr} {m : Md} (h : WebAt C H p m) (s : Same H H') : WebAt C H' p m := h.keep (fun _ _ e => s _ _ e) (Kt.of s)
theorem WebAt.sb {C : Addr} {H H' : Hp} {p f : Addr} {m : Md} {xs : List V} (h : WebAt C H p m) (s : Sb f H H') (hf : H f = some (.lst xs)) : WebAt C H' p m :=
  h.keep (fun _ _ e => s _ _ e (ne_of e hf (by intro z; cases z))) (s.kt hf)
/-- what is a name -/
abbrev letters : Str := "abcdefghijklmnopqrstuvwxyz"
def Nm (z : Str) : Prop := 1 ≤ z.length ∧ z.length ≤ 8 ∧ ∀ c ∈ z.cps.toList, c ∈ letters.cps.toList
end Tw

set_option maxHeartbeats 4000000
namespace Tw
open PySem PySem.Spec PyProof.Rows L2
section
variable {prog : Program} {w : World} {κ : Type} [DecidableEq κ] {knd : KeyKind prog w κ} {A : Around} {E : Value → Shared → Prop} {s : Shared}
/-- one key put into a dict -/
theorem put_one {d : Addr} {kvs : List (κ × Value)} {k : κ} {key v : Value} {Q : Unit → Shared → Prop} (hkey : knd.is k key = true) (hm : s.heap.DictOf knd d kvs) (few : kvs.length ≤ sizeLine)
    (hQ : ∀ h', h'.DictOf knd d (stored kvs k v) → Heap.SameBut d s.heap h' → Q () { s with heap := h' }) : wpAny (model prog w) A (dictPut d (knd.hash k) key v) Q E s := by
  obtain ⟨o, es, ep, at_, exact_, dat, keys, prs, nod⟩ := hm
  have len : es.toList.length = kvs.length := prs.length
  have ix : ∀ i, (es.findIdx? fun e => knd.is k e.key) = i → (kvs.findIdx? fun kv => decide (kv.1 = k)) = i := by
    intro i e
    rw [← prs.findIdx k, ← e]
    cases es
    simp
  unfold dictPut
  apply wpAny_bind
  apply wpAny_dictFind_of hkey at_ dat keys
  cases found : es.findIdx? fun e => knd.is k e.key with
  | none =>
    have out := not_mem_of_findIdx_none (ix _ found)
    have e : stored kvs k v = kvs ++ [(k, v)] := by
      unfold stored
      rw [if_neg]
      intro h
      obtain ⟨p, hp, e⟩ := List.any_eq_true.mp h
      exact out (List.mem_map.mpr ⟨p, hp, of_decide_eq_true e⟩)
    rw [e] at hQ
    apply wpAny_updateDictKeys at_ dat (hz := by rw [← Array.length_toList, len]; exact few)
    refine hQ _ ⟨_, _, ep + 1, Heap.get?_update_self _ at_ (Obj.isFreed_of_dict (Obj.data_mapDictKeys dat _)), exact_.mapDictKeys _, Obj.data_mapDictKeys dat _, keys.push hkey _, ?_, ?_⟩ (Heap.SameBut.update ..)
    · rw [Array.toList_push]
      exact prs.append hkey (knd.hash k) v
    · rw [List.map_append]
      refine List.nodup_append.mpr ⟨nod, List.nodup_cons.mpr ⟨List.not_mem_nil, List.nodup_nil⟩, fun x hx y hy e => ?_⟩
      rw [List.mem_singleton.mp hy] at e
      rw [e] at hx
      exact out hx
  | some i =>
    have any_ := any_of_findIdx_some (ix _ found)
    have e : stored kvs k v = kvs.map fun kv => if kv.1 = k then (kv.1, v) else kv := by
      unfold stored
      rw [if_pos any_]
    rw [e] at hQ
    apply wpAny_updateDict at_ dat
    refine hQ _ ⟨_, _, ep, Heap.get?_update_self _ at_ (Obj.isFreed_of_dict (Obj.data_mapDict dat _)), exact_.mapDict _, Obj.data_mapDict dat _, keys.modify _ _, ?_, ?_⟩ (Heap.SameBut.update ..)
    · have fl : (es.toList.findIdx? fun e => knd.is k e.key) = some i := by
        rw [← found]
        cases es
        simp
      have h := prs.modify nod fl v
      cases es
      simpa using h
    · rw [keys_map_store]
      exact nod
/-- a dict's entry at a place -/
theorem entry_of {es : Array DictEntry} {more : List (κ × Value)} (keys : KeysOf knd es) (prs : Pairs knd es.toList more) {i : Nat} (hi : i < more.length) : ∃ e, es[i]? = some e ∧ ∃ kv, more[i]? = some kv ∧ knd.is kv.1 e.key = true ∧ e.hash = knd.hash kv.1 ∧ e.val = kv.2 := by
  have hl : i < es.toList.length := by
    rw [prs.length]
    exact hi
  have e1 : es.toList[i]? = some es.toList[i] := List.getElem?_eq_getElem hl
  have e2 : more[i]? = some more[i] := List.getElem?_eq_getElem hi
  obtain ⟨h1, h2⟩ := prs.get? (k := more[i].1) (v := more[i].2) e1 e2
  obtain ⟨k', h3, h4⟩ := keys es.toList[i] (Array.mem_toList_iff.mp (List.getElem_mem hl))
  rw [knd.inj _ _ _ h3 h1] at h4
  exact ⟨_, by rw [← Array.getElem?_toList]; exact e1, _, e2, h1, h4, h2⟩
/-- a walk over an array that does nothing -/
theorem idle {α : Type} {f : α → PUnit → Sem (ForInStep PUnit)} : ∀ l : List α, (∀ e ∈ l, f e ⟨⟩ = pure (.yield ⟨⟩)) → forIn l PUnit.unit f = (pure PUnit.unit : Sem PUnit)
  | [], _ => rfl
  | a :: r, h => by
    rw [List.forIn_cons, h a List.mem_cons_self, pure_bind]
    exact idle r fun e he => h e (List.mem_cons_of_mem _ he)
/-- a walk over range(n), step by step -/
theorem steps {M : Model} {n : Nat} {f : Nat → PUnit → Sem (ForInStep PUnit)} {Q : PUnit → Shared → Prop} (P : Nat → Shared → Prop) (hs : ∀ i s, i < n → P i s → wpAny M A (f i ⟨⟩) (fun r s' => r = .yield ⟨⟩ ∧ P (i + 1) s') E s) (hq : ∀ s, P n s → Q ⟨⟩ s) :
    ∀ (m k : Nat) (s : Shared), k + m = n → P k s → wpAny M A (forIn (List.range' k m) PUnit.unit f) Q E s
  | 0, k, s, e, p => by
    have e : k = n := e
    subst e
    exact wpAny_pure (hq s p)
  | m + 1, k, s, e, p => by
    rw [List.range'_succ, List.forIn_cons]
    refine wpAny_bind (wpAny_mono (hs k s (by omega) p) (fun r s' h => ?_) (fun _ _ h => h))
    obtain ⟨rfl, p'⟩ := h
    exact steps P hs hq m (k + 1) s' (by omega) p'
theorem merge_one {d o : Addr} {kvs more : List (κ × Value)} {Q : Unit → Shared → Prop} (ne : d ≠ o) (ns : (o == sysModules) = false) (hd : s.heap.DictOf knd d kvs) (ho : s.heap.DictOf knd o more) (few : kvs.length + more.length ≤ sizeLine)
    (hQ : ∀ h', h'.DictOf knd d (merged kvs more) → h'.DictOf knd o more → Heap.SameBut d s.heap h' → Q () { s with heap := h' }) : wpAny (model prog w) A (mergeMapping d (.ref o) false) Q E s := by
  have ty := ho.typeIs
  obtain ⟨o1, es1, ep1, at1, x1, dat1, keys1, prs1, nod1⟩ := id hd
  obtain ⟨o2, es2, ep2, at2, x2, dat2, keys2, prs2, nod2⟩ := id ho
  have len2 : es2.size = more.length := by rw [← prs2.length, Array.length_toList]
  unfold mergeMapping
  refine wpAny_bind (wpAny_isInstance ty isSubtype_dict_dict ?_)
  rw [if_pos rfl]
  refine wpAny_bind (wpAny_specialOf ty F.slot_dict_iter.lookup ?_)
  refine wpAny_bind (wpAny_pure ?_)
  rw [beq_self_eq_true]
  dsimp only
  rw [if_neg (by rw [ns]; exact Bool.false_ne_true)]
  refine wpAny_bind (wpAny_dictEntries at1 dat1 ?_)
  have idl : ∀ {f : DictEntry → PUnit → Sem (ForInStep PUnit)}, (∀ e, carriedByValue e.key = true → f e ⟨⟩ = pure (.yield ⟨⟩)) → forIn es2 PUnit.unit f = (pure PUnit.unit : Sem PUnit) := by
    intro f hf
    rw [← Array.forIn_toList]
    refine idle _ fun e he => hf e ?_
    obtain ⟨k', hk', _⟩ := keys2 e (Array.mem_toList_iff.mp he)
    exact knd.byValue k' _ hk'
  by_cases hE : es1.isEmpty = true
  all_goals first | rw [if_pos hE] | rw [if_neg hE]
  any_goals
    refine wpAny_bind (wpAny_dictEntries at2 dat2 ?_)
    rw [idl fun e cb => by
      cases hv : e.key with
      | ref a =>
        rw [hv] at cb
        cases cb
      | _ => rfl]
    refine wpAny_bind (wpAny_pure ?_)
  all_goals
    refine wpAny_bind (wpAny_dictEntries at2 dat2 ?_)
    refine wpAny_bind (wpAny_dictEpoch at2 dat2 ?_)
    rw [List.range_eq_range']
    refine wpAny_bind (steps (n := es2.size) (fun i s' => ∃ h', s' = { s with heap := h' } ∧ h'.DictOf knd d (merged kvs (more.take i)) ∧ Heap.SameBut d s.heap h') ?_ ?_ es2.size 0 s (Nat.zero_add _) ⟨s.heap, rfl, hd, rfl, fun _ _ => rfl⟩)
    · rintro i s' hi ⟨h', rfl, di, sb⟩
      have at2' : h'.get? o = some o2 := by rw [sb.2 o ne.symm, at2]
      obtain ⟨e, he, kv, hkv, is_, hash_, val_⟩ := entry_of keys2 prs2 (by rw [← len2]; exact hi)
      refine wpAny_bind (wpAny_dictEntries (s := { s with heap := h' }) at2' dat2 ?_)
      rw [he]
      dsimp only
      rw [if_neg Bool.false_ne_true, hash_, val_]
      refine wpAny_bind (wpAny_holding (put_one is_ di ?_ fun h2 d2 sb2 => ?_))
      · have := merged_length_le kvs (more.take i)
        rw [List.length_take] at this
        omega
      · have at2'' : h2.get? o = some o2 := by rw [sb2.2 o ne.symm]; exact at2'
        refine wpAny_bind (wpAny_dictEpoch (s := { s with heap := h2 }) at2'' dat2 ?_)
        rw [if_neg (by simp)]
        refine wpAny_pure ⟨rfl, h2, rfl, ?_, sb2.1.trans sb.1, fun b hb => (sb2.2 b hb).trans (sb.2 b hb)⟩
        rw [merged_take_succ kvs more i kv hkv]
        exact d2
    · rintro s' ⟨h', rfl, di, sb⟩
      rw [len2, List.take_length] at di
      exact wpAny_pure (hQ h' di ⟨o2, es2, ep2, by rw [sb.2 o ne.symm, at2], x2, dat2, keys2, prs2, nod2⟩ sb)
end
section
variable {X : Cx}
/-- `{**a, key: value}`: a new dict takes what stands in a, then the pair, by way of a dict of its own -/
def tStarP (ta tk tv : TE) : TE := fun σ H Q => ∀ d, H d = none → ta σ (upd H d (.dK [])) fun x H1 => ∃ (a : Addr) (kvs : List (Key × V)), x = .ref a ∧ d ≠ a ∧ H1 a = some (.dK kvs) ∧ H1 d = some (.dK []) ∧ kvs.length < 1000 ∧
  ∀ e, upd H1 d (.dK (mergeK [] kvs)) e = none → tk σ (upd (upd H1 d (.dK (mergeK [] kvs))) e (.dK [])) fun y H2 => tv σ H2 fun z H3 => ∃ k : Key, y = kV k ∧ H3 e = some (.dK []) ∧ H3 d = some (.dK (mergeK [] kvs)) ∧ d ≠ e ∧
    Q (.ref d) (upd (upd H3 e (.dK [(k, z)])) d (.dK (putK (mergeK [] kvs) k z)))
/-- merging, told by the layer -/
theorem merge_at {pins : List (Addr × Obj)} {σ : L2.St} {H : Hp} {s : Shared} {d a : Addr} {kvs more : List (Key × V)} {A : Around} {E : Value → Shared → Prop} {Q : Unit → Shared → Prop} (I : Inv X pins σ H s) (hd : H d = some (.dK kvs)) (ha : H a = some (.dK more)) (ne : d ≠ a) (few : kvs.length + more.length ≤ sizeLine)
    (hQ : ∀ s', Inv X pins σ (upd H d (.dK (mergeK kvs more))) s' → Q () s') : wpAny (model X.prog X.w) A (mergeMapping d (.ref a) false) Q E s := by
  obtain ⟨z1, b1, vs1, r1, d1⟩ := dk_of I.hok hd
  obtain ⟨z2, b2, vs2, r2, d2⟩ := dk_of I.hok ha
  refine merge_one ne b2 d1 d2 (by rw [← r1.length, ← r2.length]; exact few) fun h' dd _ sb => hQ _ ?_
  have he : ∃ q, h'.get? d = some q := by
    obtain ⟨q, _, _, hq, _⟩ := dd
    exact ⟨q, hq⟩
  exact d_write (t' := s.toks) I (by rw [hd]; exact True.intro) sb he (dk_new (Nat.le_trans (length_mergeK more kvs) few) b1 (r2.merge r1) dd)
theorem pe_starP {ax kx vx : Expr} {pos : Pos} {ta tk tv : TE} (ha : PE X ax ta) (hp : PPs X pos [some kx] [vx] [(tk, tv)]) : PE X (.Dict [none, some kx] [ax, vx] pos) (tStarP ta tk tv) := by
  constructor
  intro pins s σ H Q I q
  rw [arm_eval_Dict]
  apply wpAny_bind
  apply wpAny_standAt
  show wpAny _ _ (dictDisplay [(none, do let x ← eval ax X.env; standAt pos; pure x), (some (eval kx X.env), do let x ← eval vx X.env; standAt pos; pure x)]) _ _ _
  unfold dictDisplay
  dsimp only
  rw [List.forIn_cons]
  simp only [List.isEmpty_nil, if_true, pure_bind, bind_assoc]
  apply wpAny_bind
  apply wpAny_alloc
  have nd := I.hok.fresh (Nat.le_refl s.heap.objs.size)
  have I1 := I.laid (a := s.heap.objs.size) (o := .dK []) (h' := s.heap.push { cls := .type "dict", data := .dict #[] }) (t' := s.toks) (fun _ _ z => Heap.get?_push_of_some _ z) (Nat.le_refl _) (dk_empty s.heap I.big)
  generalize s.heap.objs.size = d at nd I1 ⊢
  apply wpAny_bind
  apply wpAny_holding
  apply wpAny_bind
  refine thn (ha.run pins _ σ _ _ I1 (q d nd)) ?_
  rintro u s2 ⟨x, H1, I2, rx, a, kvs, rfl, nda, hA, hD, few, q1⟩
  cases rx
  apply wpAny_bind
  apply wpAny_standAt
  apply wpAny_pure
  have big : sizeLine = 16777216 := sizeLine_eq
  apply wpAny_bind
  refine wpAny_onRaise (wpAny_tryCatch (wpAny_onRaise (wpAny_holding (merge_at (kvs := []) I2 hD hA nda (by show 0 + kvs.length ≤ sizeLine; omega) fun s3 I3 => ?_))))
  rw [List.forIn_cons]
  simp only [List.nil_append, pure_bind, bind_assoc, List.forIn_nil]
  rw [if_neg (by show ¬ ((1 : Nat) == 17) = true; decide), pure_bind]
  dsimp only
  rw [pure_bind]
  dsimp only
  rw [if_neg (by show ¬ false = true; decide)]
  simp only [bind_assoc, pure_bind]
  apply wpAny_bind
  apply wpAny_holding
  have ne := I3.hok.fresh (Nat.le_refl s3.heap.objs.size)
  have I4 := I3.laid (a := s3.heap.objs.size) (o := .dK []) (h' := s3.heap.push { cls := .type "dict", data := .dict #[] }) (t' := s3.toks) (fun _ _ z => Heap.get?_push_of_some _ z) (Nat.le_refl _) (dk_empty s3.heap I3.big)
  refine wpAny_subDict (knd := mixKind X.prog X.w) (by show 1 ≤ 15; decide) (thn (hp.run pins _ σ _ (fun ps H3 => match ps with
    | [(y, z)] => ∃ k : Key, y = kV k ∧ H3 s3.heap.objs.size = some (.dK []) ∧ H3 d = some (.dK (mergeK [] kvs)) ∧ d ≠ s3.heap.objs.size ∧ Q (.ref d) (upd (upd H3 s3.heap.objs.size (.dK [(k, z)])) d (.dK (putK (mergeK [] kvs) k z)))
    | _ => False) I4 (q1 _ ne)) ?_)
  rintro ws s5 ⟨ps, H3, I5, rel, q5⟩
  match ps, rel, q5 with
  | [], _, q5 => exact q5.elim
  | _ :: _ :: _, _, q5 => exact q5.elim
  | [(y, z)], rel, q5 =>
    obtain ⟨k, rfl, hE, hD3, nde, q3⟩ := q5
    obtain ⟨rs, c, rk⟩ := carries_of (P := X.prog) (w := X.w) (kvs := [(k, z)]) rel
    obtain ⟨_, bE, vs0, r0, dd⟩ := dk_of I5.hok hE
    cases r0
    refine ⟨rs, c, dd, fun h' dd' sb => ?_⟩
    have he : ∃ q, h'.get? s3.heap.objs.size = some q := by
      obtain ⟨q, _, _, hq, _⟩ := dd'
      exact ⟨q, hq⟩
    have I6 := d_write (t' := s5.toks + ws.length) I5 (by rw [hE]; exact True.intro) sb he (dk_new (kvs := [(k, z)]) (by show 1 ≤ sizeLine; omega) bE (rk.merge .nil) dd')
    apply wpAny_bind
    refine wpAny_onRaise (wpAny_holding (merge_at (kvs := mergeK [] kvs) (more := [(k, z)]) I6 (by rw [upd_ne nde]; exact hD3) upd_same nde ?_ fun s7 I7 => wpAny_pure ⟨.ref d, _, I7, rfl, q3⟩))
    have := length_mergeK kvs []
    show (mergeK [] kvs).length + 1 ≤ sizeLine
    rw [List.length_nil] at this
    omega
/-- `{**a, **b}` -/
def tStarS (ta tb : TE) : TE := fun σ H Q => ∀ d, H d = none → ta σ (upd H d (.dK [])) fun x H1 => ∃ (a : Addr) (kvs : List (Key × V)), x = .ref a ∧ d ≠ a ∧ H1 a = some (.dK kvs) ∧ H1 d = some (.dK []) ∧ kvs.length < 1000 ∧
  tb σ (upd H1 d (.dK (mergeK [] kvs))) fun y H2 => ∃ (b : Addr) (more : List (Key × V)), y = .ref b ∧ d ≠ b ∧ H2 b = some (.dK more) ∧ H2 d = some (.dK (mergeK [] kvs)) ∧ more.length < 1000 ∧ Q (.ref d) (upd H2 d (.dK (mergeK (mergeK [] kvs) more)))
theorem pe_starS {ax bx : Expr} {pos : Pos} {ta tb : TE} (ha : PE X ax ta) (hb : PE X bx tb) : PE X (.Dict [none, none] [ax, bx] pos) (tStarS ta tb) := by
  constructor
  intro pins s σ H Q I q
  rw [arm_eval_Dict]
  apply wpAny_bind
  apply wpAny_standAt
  show wpAny _ _ (dictDisplay [(none, do let x ← eval ax X.env; standAt pos; pure x), (none, do let x ← eval bx X.env; standAt pos; pure x)]) _ _ _
  unfold dictDisplay
  dsimp only
  rw [List.forIn_cons]
  simp only [List.isEmpty_nil, if_true, pure_bind, bind_assoc]
  apply wpAny_bind
  apply wpAny_alloc
  have nd := I.hok.fresh (Nat.le_refl s.heap.objs.size)
  have I1 := I.laid (a := s.heap.objs.size) (o := .dK []) (h' := s.heap.push { cls := .type "dict", data := .dict #[] }) (t' := s.toks) (fun _ _ z => Heap.get?_push_of_some _ z) (Nat.le_refl _) (dk_empty s.heap I.big)
  generalize s.heap.objs.size = d at nd I1 ⊢
  have big : sizeLine = 16777216 := sizeLine_eq
  apply wpAny_bind
  apply wpAny_holding
  apply wpAny_bind
  refine thn (ha.run pins _ σ _ _ I1 (q d nd)) ?_
  rintro u s2 ⟨x, H1, I2, rx, a, kvs, rfl, nda, hA, hD, few, q1⟩
  cases rx
  apply wpAny_bind
  apply wpAny_standAt
  apply wpAny_pure
  apply wpAny_bind
  refine wpAny_onRaise (wpAny_tryCatch (wpAny_onRaise (wpAny_holding (merge_at (kvs := []) I2 hD hA nda (by show 0 + kvs.length ≤ sizeLine; omega) fun s3 I3 => ?_))))
  rw [List.forIn_cons]
  simp only [List.isEmpty_nil, if_true, pure_bind, bind_assoc, List.forIn_nil]
  apply wpAny_bind
  apply wpAny_holding
  apply wpAny_bind
  refine thn (hb.run pins _ σ _ _ I3 q1) ?_
  rintro u s4 ⟨y, H2, I4, ry, b, more, rfl, ndb, hB, hD2, few2, q2⟩
  cases ry
  apply wpAny_bind
  apply wpAny_standAt
  apply wpAny_pure
  apply wpAny_bind
  have lm := length_mergeK kvs []
  rw [List.length_nil] at lm
  refine wpAny_onRaise (wpAny_tryCatch (wpAny_onRaise (wpAny_holding (merge_at I4 hD2 hB ndb (by omega) fun s5 I5 => ?_))))
  exact wpAny_pure ⟨.ref d, _, I5, rfl, q2⟩
/-- a list walked within a comprehension -/
theorem pi_listK {K : PySem.W.Frag} (h : X.K = K) {tg e : Expr} {te : TE} (he : PE X e te) : PI X tg e (iList K te) := by
  subst h
  exact pi_list he
end
end Tw

set_option maxHeartbeats 4000000
namespace Tw
open PySem PySem.Spec PyProof.Rows L2
/-! tuples joined and cut: what stands at the told place -/
def rCatU : R2 := fun x y H Q => ∃ a b xs ys, x = .ref a ∧ y = .ref b ∧ H a = some (.tup xs) ∧ H b = some (.tup ys) ∧ xs.length + ys.length ≤ sizeLine ∧ ∀ p H', Same H H' → H' p = some (.tup (xs ++ ys)) → Q (.ref p) H'
theorem op_catU {X : Cx} : OpR X (binaryOp .Add) rCatU := by
  intro pins s σ H x y v u Q I rx ry h
  obtain ⟨a, b, xs, ys, rfl, rfl, ha, hb, hl, q⟩ := h
  refine op_catA pins s σ H _ _ v u Q I rx ry ⟨a, b, xs, ys, rfl, rfl, .inl (.inl ha), .inl (.inl hb), hl, fun e => ?_, fun _ e => ?_, fun _ _ p np => q p _ (same_upd np) upd_same⟩
  · exact q b H (Same.refl H) (by rw [hb, e]; rfl)
  · exact q a H (Same.refl H) (by rw [ha, e, List.append_nil])
def rSlU : V → Option Int → Option Int → Hp → VK → Prop := fun x lo hi H Q => ∃ a xs, x = .ref a ∧ H a = some (.tup xs) ∧ ∀ p H', Same H H' → H' p = some (.tup (cutV xs lo hi)) → Q (.ref p) H'
theorem sl_tupU {X : Cx} : SlR X rSlU := by
  intro pins s σ H x v vl vu lo hi sl Q I rx hs pl pu h
  obtain ⟨a, xs, rfl, ha, q⟩ := h
  refine sl_tupA pins s σ H _ v vl vu lo hi sl Q I rx hs pl pu ⟨a, xs, rfl, .inl (.inl ha), fun e => ?_, fun _ p np => q p _ (same_upd np) upd_same⟩
  refine q a H (Same.refl H) ?_
  rw [ha]
  unfold cutV
  rw [e.1, e.2, List.drop_zero, Nat.sub_zero, List.take_length]
end Tw

set_option maxHeartbeats 4000000
namespace Tw
open PySem PySem.Spec PyProof.Rows L2

def top (i : Nat) : Stmt := PySem.Challenge.pw_tidewaiter_k42_deaf_webs_and_corners.main.body.getD i (.Pass ⟨0, 0, 0, 0⟩)
abbrev s_is_number : Stmt := top 4
abbrev s_is_whole : Stmt := top 5
abbrev s_is_one_of : Stmt := top 6
abbrev s_is_name : Stmt := top 7
abbrev s_Web_UinitU : Stmt := inClass (top 30) 0
abbrev s_Web_with_moment : Stmt := inClass (top 30) 2
abbrev s_Web_with_span : Stmt := inClass (top 30) 3
abbrev s_Web_with_tie : Stmt := inClass (top 30) 4
abbrev s_Web_moments : Stmt := inClass (top 30) 7
abbrev s_Web_spans : Stmt := inClass (top 30) 8
abbrev s_Web_ties : Stmt := inClass (top 30) 9
abbrev s_Web_points : Stmt := inClass (top 30) 10
abbrev s_Web_UeqU : Stmt := inClass (top 30) 11
abbrev s_Web_UlenU : Stmt := inClass (top 30) 12
abbrev s_Web_UreprU : Stmt := inClass (top 30) 13
abbrev s_woven : Stmt := top 31
abbrev s_is_begin : Stmt := top 32
abbrev s_are_lengths : Stmt := top 33
abbrev s_is_lateness : Stmt := top 34
abbrev s_are_bounds : Stmt := top 35
abbrev s_need_free_name : Stmt := top 36
abbrev s_need_point : Stmt := top 37
abbrev s_deaf : Stmt := top 39
abbrev s_corners : Stmt := top 40
abbrev s_with_spans : Stmt := top 41
abbrev s__law_flow : Stmt := top 43
abbrev s__law_draw : Stmt := top 44
abbrev s__law_pick : Stmt := top 45
abbrev s__law_same : Stmt := top 46
abbrev s__law_names : Stmt := top 47
abbrev s__law_model : Stmt := top 48
abbrev s__law_points : Stmt := top 49
abbrev s__law_web : Stmt := top 50
abbrev s__law_wind : Stmt := top 51
abbrev s__law_bond : Stmt := top 52
abbrev s__law_drawn : Stmt := top 53
abbrev s__law_stands : Stmt := top 54
abbrev s__law_copy : Stmt := top 55
abbrev s__law_corner_rows : Stmt := top 56
abbrev s_law : Stmt := top 57
abbrev N_is_number : List Str := ["thing"]
theorem sc_is_number : FnScope N_is_number ["thing"] (defScope s_is_number) := ⟨rfl, rfl, rfl, by decide +kernel, rfl, by decide +kernel, by decide +kernel⟩
abbrev N_is_whole : List Str := ["thing", "least", "most"]
theorem sc_is_whole : FnScope N_is_whole ["thing", "least", "most"] (defScope s_is_whole) := ⟨rfl, rfl, rfl, by decide +kernel, rfl, by decide +kernel, by decide +kernel⟩
abbrev N_is_one_of : List Str := ["thing", "names"]
theorem sc_is_one_of : FnScope N_is_one_of ["thing", "names"] (defScope s_is_one_of) := ⟨rfl, rfl, rfl, by decide +kernel, rfl, by decide +kernel, by decide +kernel⟩
abbrev N_is_name : List Str := ["thing", "letter"]
theorem sc_is_name : FnScope N_is_name ["thing"] (defScope s_is_name) := ⟨rfl, rfl, rfl, by decide +kernel, rfl, by decide +kernel, by decide +kernel⟩
abbrev N_Web_UinitU : List Str := ["self", "by"]
theorem sc_Web_UinitU : FnScope N_Web_UinitU ["self", "by"] (defScope s_Web_UinitU) := ⟨rfl, rfl, rfl, by decide +kernel, rfl, by decide +kernel, by decide +kernel⟩
abbrev N_Web_with_moment : List Str := ["self", "name"]
theorem sc_Web_with_moment : FnScope N_Web_with_moment ["self", "name"] (defScope s_Web_with_moment) := ⟨rfl, rfl, rfl, by decide +kernel, rfl, by decide +kernel, by decide +kernel⟩
abbrev N_Web_with_span : List Str := ["self", "end", "begin", "low", "high", "late", "span"]
theorem sc_Web_with_span : FnScope N_Web_with_span ["self", "end", "begin", "low", "high", "late"] (defScope s_Web_with_span) := ⟨rfl, rfl, rfl, by decide +kernel, rfl, by decide +kernel, by decide +kernel⟩
abbrev N_Web_with_tie : List Str := ["self", "one", "other", "least", "most", "tie"]
theorem sc_Web_with_tie : FnScope N_Web_with_tie ["self", "one", "other", "least", "most"] (defScope s_Web_with_tie) := ⟨rfl, rfl, rfl, by decide +kernel, rfl, by decide +kernel, by decide +kernel⟩
abbrev N_Web_moments : List Str := ["self"]
theorem sc_Web_moments : FnScope N_Web_moments ["self"] (defScope s_Web_moments) := ⟨rfl, rfl, rfl, by decide +kernel, rfl, by decide +kernel, by decide +kernel⟩
abbrev N_Web_spans : List Str := ["self"]
theorem sc_Web_spans : FnScope N_Web_spans ["self"] (defScope s_Web_spans) := ⟨rfl, rfl, rfl, by decide +kernel, rfl, by decide +kernel, by decide +kernel⟩
abbrev N_Web_ties : List Str := ["self"]
theorem sc_Web_ties : FnScope N_Web_ties ["self"] (defScope s_Web_ties) := ⟨rfl, rfl, rfl, by decide +kernel, rfl, by decide +kernel, by decide +kernel⟩
abbrev N_Web_points : List Str := ["self", "ends", "span"]
theorem sc_Web_points : FnScope N_Web_points ["self"] (defScope s_Web_points) := ⟨rfl, rfl, rfl, by decide +kernel, rfl, by decide +kernel, by decide +kernel⟩
abbrev N_Web_UeqU : List Str := ["self", "other"]
theorem sc_Web_UeqU : FnScope N_Web_UeqU ["self", "other"] (defScope s_Web_UeqU) := ⟨rfl, rfl, rfl, by decide +kernel, rfl, by decide +kernel, by decide +kernel⟩
abbrev N_Web_UlenU : List Str := ["self"]
theorem sc_Web_UlenU : FnScope N_Web_UlenU ["self"] (defScope s_Web_UlenU) := ⟨rfl, rfl, rfl, by decide +kernel, rfl, by decide +kernel, by decide +kernel⟩
abbrev N_Web_UreprU : List Str := ["self"]
theorem sc_Web_UreprU : FnScope N_Web_UreprU ["self"] (defScope s_Web_UreprU) := ⟨rfl, rfl, rfl, by decide +kernel, rfl, by decide +kernel, by decide +kernel⟩
abbrev N_woven : List Str := ["by", "moments", "spans", "ties", "web"]
theorem sc_woven : FnScope N_woven ["by", "moments", "spans", "ties"] (defScope s_woven) := ⟨rfl, rfl, rfl, by decide +kernel, rfl, by decide +kernel, by decide +kernel⟩
abbrev N_is_begin : List Str := ["web", "name"]
theorem sc_is_begin : FnScope N_is_begin ["web", "name"] (defScope s_is_begin) := ⟨rfl, rfl, rfl, by decide +kernel, rfl, by decide +kernel, by decide +kernel⟩
abbrev N_are_lengths : List Str := ["low", "high"]
theorem sc_are_lengths : FnScope N_are_lengths ["low", "high"] (defScope s_are_lengths) := ⟨rfl, rfl, rfl, by decide +kernel, rfl, by decide +kernel, by decide +kernel⟩
abbrev N_is_lateness : List Str := ["late"]
theorem sc_is_lateness : FnScope N_is_lateness ["late"] (defScope s_is_lateness) := ⟨rfl, rfl, rfl, by decide +kernel, rfl, by decide +kernel, by decide +kernel⟩
abbrev N_are_bounds : List Str := ["least", "most", "told", "bound"]
theorem sc_are_bounds : FnScope N_are_bounds ["least", "most"] (defScope s_are_bounds) := ⟨rfl, rfl, rfl, by decide +kernel, rfl, by decide +kernel, by decide +kernel⟩
abbrev N_need_free_name : List Str := ["web", "name"]
theorem sc_need_free_name : FnScope N_need_free_name ["web", "name"] (defScope s_need_free_name) := ⟨rfl, rfl, rfl, by decide +kernel, rfl, by decide +kernel, by decide +kernel⟩
abbrev N_need_point : List Str := ["web", "name"]
theorem sc_need_point : FnScope N_need_point ["web", "name"] (defScope s_need_point) := ⟨rfl, rfl, rfl, by decide +kernel, rfl, by decide +kernel, by decide +kernel⟩
abbrev N_deaf : List Str := ["web", "end", "begin", "low", "high", "late"]
theorem sc_deaf : FnScope N_deaf ["web"] (defScope s_deaf) := ⟨rfl, rfl, rfl, by decide +kernel, rfl, by decide +kernel, by decide +kernel⟩
abbrev N_corners : List Str := ["web", "found", "end", "begin", "low", "high", "late", "ways", "lengths", "length"]
theorem sc_corners : FnScope N_corners ["web"] (defScope s_corners) := ⟨rfl, rfl, rfl, by decide +kernel, rfl, by decide +kernel, by decide +kernel⟩
abbrev N_with_spans : List Str := ["web", "spans"]
theorem sc_with_spans : FnScope N_with_spans ["web", "spans"] (defScope s_with_spans) := ⟨rfl, rfl, rfl, by decide +kernel, rfl, by decide +kernel, by decide +kernel⟩
abbrev N__law_flow : List Str := ["_law_script"]
theorem sc__law_flow : FnScope N__law_flow ["_law_script"] (defScope s__law_flow) := ⟨rfl, rfl, rfl, by decide +kernel, rfl, by decide +kernel, by decide +kernel⟩
abbrev N__law_draw : List Str := ["_law_flow_here", "_law_size", "_law_found", "_law_cell", "_law_here"]
theorem sc__law_draw : FnScope N__law_draw ["_law_flow_here", "_law_size"] (defScope s__law_draw) := ⟨rfl, rfl, rfl, by decide +kernel, rfl, by decide +kernel, by decide +kernel⟩
abbrev N__law_pick : List Str := ["_law_flow_here", "_law_row"]
theorem sc__law_pick : FnScope N__law_pick ["_law_flow_here", "_law_row"] (defScope s__law_pick) := ⟨rfl, rfl, rfl, by decide +kernel, rfl, by decide +kernel, by decide +kernel⟩
abbrev N__law_same : List Str := ["_law_found", "_law_due", "_law_key", "_law_k"]
theorem sc__law_same : FnScope N__law_same ["_law_found", "_law_due"] (defScope s__law_same) := ⟨rfl, rfl, rfl, by decide +kernel, rfl, by decide +kernel, by decide +kernel⟩
abbrev N__law_names : List Str := ["_law_flow_here", "_law_many", "_law_pool", "_law_found", "_law_k"]
theorem sc__law_names : FnScope N__law_names ["_law_flow_here", "_law_many"] (defScope s__law_names) := ⟨rfl, rfl, rfl, by decide +kernel, rfl, by decide +kernel, by decide +kernel⟩
abbrev N__law_model : List Str := ["_law_last"]
theorem sc__law_model : FnScope N__law_model ["_law_last"] (defScope s__law_model) := ⟨rfl, rfl, rfl, by decide +kernel, rfl, by decide +kernel, by decide +kernel⟩
abbrev N__law_points : List Str := ["_law_m", "_law_wind_here"]
theorem sc__law_points : FnScope N__law_points ["_law_m"] (defScope s__law_points) := ⟨rfl, rfl, rfl, by decide +kernel, rfl, by decide +kernel, by decide +kernel⟩
abbrev N__law_web : List Str := ["_law_m", "_law_web_here", "_law_name", "_law_end", "_law_begin", "_law_low", "_law_high", "_law_hush", "_law_one", "_law_other", "_law_bot", "_law_top"]
theorem sc__law_web : FnScope N__law_web ["_law_m"] (defScope s__law_web) := ⟨rfl, rfl, rfl, by decide +kernel, rfl, by decide +kernel, by decide +kernel⟩
abbrev N__law_wind : List Str := ["_law_flow_here", "_law_end", "_law_own", "_law_far", "_law_low", "_law_high", "_law_hush"]
theorem sc__law_wind : FnScope N__law_wind ["_law_flow_here", "_law_end", "_law_own", "_law_far"] (defScope s__law_wind) := ⟨rfl, rfl, rfl, by decide +kernel, rfl, by decide +kernel, by decide +kernel⟩
abbrev N__law_bond : List Str := ["_law_flow_here", "_law_points_here", "_law_far", "_law_rest", "_law_one", "_law_other", "_law_low", "_law_high", "_law_kind"]
theorem sc__law_bond : FnScope N__law_bond ["_law_flow_here", "_law_points_here", "_law_far"] (defScope s__law_bond) := ⟨rfl, rfl, rfl, by decide +kernel, rfl, by decide +kernel, by decide +kernel⟩
abbrev N__law_drawn : List Str := ["_law_flow_here", "_law_own", "_law_winds", "_law_bonds", "_law_far", "_law_last", "_law_m", "_law_names_here", "_law_end", "_law_k"]
theorem sc__law_drawn : FnScope N__law_drawn ["_law_flow_here", "_law_own", "_law_winds", "_law_bonds", "_law_far", "_law_last"] (defScope s__law_drawn) := ⟨rfl, rfl, rfl, by decide +kernel, rfl, by decide +kernel, by decide +kernel⟩
abbrev N__law_stands : List Str := ["_law_web_here", "_law_m", "_law_points_here", "_law_found", "_law_text"]
theorem sc__law_stands : FnScope N__law_stands ["_law_web_here", "_law_m"] (defScope s__law_stands) := ⟨rfl, rfl, rfl, by decide +kernel, rfl, by decide +kernel, by decide +kernel⟩
abbrev N__law_copy : List Str := ["_law_m"]
theorem sc__law_copy : FnScope N__law_copy ["_law_m"] (defScope s__law_copy) := ⟨rfl, rfl, rfl, by decide +kernel, rfl, by decide +kernel, by decide +kernel⟩
abbrev N__law_corner_rows : List Str := ["_law_m", "_law_found", "_law_end", "_law_begin", "_law_low", "_law_high", "_law_hush", "_law_wider", "_law_some", "_law_size", "_law_more"]
theorem sc__law_corner_rows : FnScope N__law_corner_rows ["_law_m"] (defScope s__law_corner_rows) := ⟨rfl, rfl, rfl, by decide +kernel, rfl, by decide +kernel, by decide +kernel⟩
abbrev N_law : List Str := ["_law_script", "_law_flow_here", "_law_own", "_law_winds", "_law_bonds", "_law_m", "_law_at", "_law_end", "_law_begin", "_law_low", "_law_high", "_law_hush", "_law_web_here", "_law_n", "_law_due", "_law_turn", "_law_found", "_law_wind_here"]
theorem sc_law : FnScope N_law ["_law_script"] (defScope s_law) := ⟨rfl, rfl, rfl, by decide +kernel, rfl, by decide +kernel, by decide +kernel⟩
def d_is_number : He.DefD := ⟨("is_number", none), "is_number", "is_number", defArgs s_is_number, defBody s_is_number, defScope s_is_number, [], []⟩
def d_is_whole : He.DefD := ⟨("is_whole", none), "is_whole", "is_whole", defArgs s_is_whole, defBody s_is_whole, defScope s_is_whole, [], []⟩
def d_is_one_of : He.DefD := ⟨("is_one_of", none), "is_one_of", "is_one_of", defArgs s_is_one_of, defBody s_is_one_of, defScope s_is_one_of, [], []⟩
def d_is_name : He.DefD := ⟨("is_name", none), "is_name", "is_name", defArgs s_is_name, defBody s_is_name, defScope s_is_name, [], []⟩
def d_Web_UinitU : He.DefD := ⟨("Web", some "__init__"), "__init__", "Web.__init__", defArgs s_Web_UinitU, defBody s_Web_UinitU, defScope s_Web_UinitU, [.int 100], []⟩
def d_Web_with_moment : He.DefD := ⟨("Web", some "with_moment"), "with_moment", "Web.with_moment", defArgs s_Web_with_moment, defBody s_Web_with_moment, defScope s_Web_with_moment, [], []⟩
def d_Web_with_span : He.DefD := ⟨("Web", some "with_span"), "with_span", "Web.with_span", defArgs s_Web_with_span, defBody s_Web_with_span, defScope s_Web_with_span, [], [("late", .int 0)]⟩
def d_Web_with_tie : He.DefD := ⟨("Web", some "with_tie"), "with_tie", "Web.with_tie", defArgs s_Web_with_tie, defBody s_Web_with_tie, defScope s_Web_with_tie, [], [("least", .non), ("most", .non)]⟩
def d_Web_moments : He.DefD := ⟨("Web", some "moments"), "moments", "Web.moments", defArgs s_Web_moments, defBody s_Web_moments, defScope s_Web_moments, [], []⟩
def d_Web_spans : He.DefD := ⟨("Web", some "spans"), "spans", "Web.spans", defArgs s_Web_spans, defBody s_Web_spans, defScope s_Web_spans, [], []⟩
def d_Web_ties : He.DefD := ⟨("Web", some "ties"), "ties", "Web.ties", defArgs s_Web_ties, defBody s_Web_ties, defScope s_Web_ties, [], []⟩
def d_Web_points : He.DefD := ⟨("Web", some "points"), "points", "Web.points", defArgs s_Web_points, defBody s_Web_points, defScope s_Web_points, [], []⟩
def d_Web_UeqU : He.DefD := ⟨("Web", some "__eq__"), "__eq__", "Web.__eq__", defArgs s_Web_UeqU, defBody s_Web_UeqU, defScope s_Web_UeqU, [], []⟩
def d_Web_UlenU : He.DefD := ⟨("Web", some "__len__"), "__len__", "Web.__len__", defArgs s_Web_UlenU, defBody s_Web_UlenU, defScope s_Web_UlenU, [], []⟩
def d_Web_UreprU : He.DefD := ⟨("Web", some "__repr__"), "__repr__", "Web.__repr__", defArgs s_Web_UreprU, defBody s_Web_UreprU, defScope s_Web_UreprU, [], []⟩
def d_woven : He.DefD := ⟨("woven", none), "woven", "woven", defArgs s_woven, defBody s_woven, defScope s_woven, [], []⟩
def d_is_begin : He.DefD := ⟨("is_begin", none), "is_begin", "is_begin", defArgs s_is_begin, defBody s_is_begin, defScope s_is_begin, [], []⟩
def d_are_lengths : He.DefD := ⟨("are_lengths", none), "are_lengths", "are_lengths", defArgs s_are_lengths, defBody s_are_lengths, defScope s_are_lengths, [], []⟩
def d_is_lateness : He.DefD := ⟨("is_lateness", none), "is_lateness", "is_lateness", defArgs s_is_lateness, defBody s_is_lateness, defScope s_is_lateness, [], []⟩
def d_are_bounds : He.DefD := ⟨("are_bounds", none), "are_bounds", "are_bounds", defArgs s_are_bounds, defBody s_are_bounds, defScope s_are_bounds, [], []⟩
def d_need_free_name : He.DefD := ⟨("need_free_name", none), "need_free_name", "need_free_name", defArgs s_need_free_name, defBody s_need_free_name, defScope s_need_free_name, [], []⟩
def d_need_point : He.DefD := ⟨("need_point", none), "need_point", "need_point", defArgs s_need_point, defBody s_need_point, defScope s_need_point, [], []⟩
def d_deaf : He.DefD := ⟨("deaf", none), "deaf", "deaf", defArgs s_deaf, defBody s_deaf, defScope s_deaf, [], []⟩
def d_corners : He.DefD := ⟨("corners", none), "corners", "corners", defArgs s_corners, defBody s_corners, defScope s_corners, [], []⟩
def d_with_spans : He.DefD := ⟨("with_spans", none), "with_spans", "with_spans", defArgs s_with_spans, defBody s_with_spans, defScope s_with_spans, [], []⟩
def d__law_flow : He.DefD := ⟨("_law_flow", none), "_law_flow", "_law_flow", defArgs s__law_flow, defBody s__law_flow, defScope s__law_flow, [], []⟩
def d__law_draw : He.DefD := ⟨("_law_draw", none), "_law_draw", "_law_draw", defArgs s__law_draw, defBody s__law_draw, defScope s__law_draw, [], []⟩
def d__law_pick : He.DefD := ⟨("_law_pick", none), "_law_pick", "_law_pick", defArgs s__law_pick, defBody s__law_pick, defScope s__law_pick, [], []⟩
def d__law_same : He.DefD := ⟨("_law_same", none), "_law_same", "_law_same", defArgs s__law_same, defBody s__law_same, defScope s__law_same, [], []⟩
def d__law_names : He.DefD := ⟨("_law_names", none), "_law_names", "_law_names", defArgs s__law_names, defBody s__law_names, defScope s__law_names, [], []⟩
def d__law_model : He.DefD := ⟨("_law_model", none), "_law_model", "_law_model", defArgs s__law_model, defBody s__law_model, defScope s__law_model, [], []⟩
def d__law_points : He.DefD := ⟨("_law_points", none), "_law_points", "_law_points", defArgs s__law_points, defBody s__law_points, defScope s__law_points, [], []⟩
def d__law_web : He.DefD := ⟨("_law_web", none), "_law_web", "_law_web", defArgs s__law_web, defBody s__law_web, defScope s__law_web, [], []⟩
def d__law_wind : He.DefD := ⟨("_law_wind", none), "_law_wind", "_law_wind", defArgs s__law_wind, defBody s__law_wind, defScope s__law_wind, [], []⟩
def d__law_bond : He.DefD := ⟨("_law_bond", none), "_law_bond", "_law_bond", defArgs s__law_bond, defBody s__law_bond, defScope s__law_bond, [], []⟩
def d__law_drawn : He.DefD := ⟨("_law_drawn", none), "_law_drawn", "_law_drawn", defArgs s__law_drawn, defBody s__law_drawn, defScope s__law_drawn, [], []⟩
def d__law_stands : He.DefD := ⟨("_law_stands", none), "_law_stands", "_law_stands", defArgs s__law_stands, defBody s__law_stands, defScope s__law_stands, [], []⟩
def d__law_copy : He.DefD := ⟨("_law_copy", none), "_law_copy", "_law_copy", defArgs s__law_copy, defBody s__law_copy, defScope s__law_copy, [], []⟩
def d__law_corner_rows : He.DefD := ⟨("_law_corner_rows", none), "_law_corner_rows", "_law_corner_rows", defArgs s__law_corner_rows, defBody s__law_corner_rows, defScope s__law_corner_rows, [], []⟩
def d_law : He.DefD := ⟨("law", none), "law", "law", defArgs s_law, defBody s_law, defScope s_law, [], []⟩
def fn : List He.DefD := [d_is_number, d_is_whole, d_is_one_of, d_is_name, d_Web_UinitU, d_Web_with_moment, d_Web_with_span, d_Web_with_tie, d_Web_moments, d_Web_spans, d_Web_ties, d_Web_points, d_Web_UeqU, d_Web_UlenU, d_Web_UreprU, d_woven, d_is_begin, d_are_lengths, d_is_lateness, d_are_bounds, d_need_free_name, d_need_point, d_deaf, d_corners, d_with_spans, d__law_flow, d__law_draw, d__law_pick, d__law_same, d__law_names, d__law_model, d__law_points, d__law_web, d__law_wind, d__law_bond, d__law_drawn, d__law_stands, d__law_copy, d__law_corner_rows, d_law]
def fa0 : List He.Fa := [.glo "is_number", .glo "is_whole", .glo "is_one_of", .glo "is_name", .glo "woven", .glo "is_begin", .glo "are_lengths", .glo "is_lateness", .glo "are_bounds", .glo "need_free_name", .glo "need_point", .glo "deaf", .glo "corners", .glo "with_spans", .glo "_law_flow", .glo "_law_draw", .glo "_law_pick", .glo "_law_same", .glo "_law_names", .glo "_law_model", .glo "_law_points", .glo "_law_web", .glo "_law_wind", .glo "_law_bond", .glo "_law_drawn", .glo "_law_stands", .glo "_law_copy", .glo "_law_corner_rows", .glo "law", .free "isinstance"]
def fa1 : List He.Fa := [.free "int", .free "bool", .free "str", .free "all", .free "len", .free "list", .free "tuple", .free "abs", .free "dict", .free "range", .free "repr", .str "LETTERS" "abcdefghijklmnopqrstuvwxyz", .int "LONGEST_NAME" 8, .int "BY" 100, .str "START" "start", .int "MOST_BY" 1000, .int "MOST_MOMENTS" 10, .int "MOST_SPANS" 4, .int "MOST_TIES" 40, .int "MOST_LENGTH" 1000, .int "MOST_LATE" 1000, .int "MOST_BOUND" 1000, .glo "Web", .cls "Web", .mkr "Web", .noat "Web" "by", .noat "Web" "moment_rows", .noat "Web" "span_rows", .noat "Web" "tie_rows", .noat "Web" "__bool__"]
def fa2 : List He.Fa := [.meth "Web" "__init__", .meth "Web" "with_moment", .meth "Web" "with_span", .meth "Web" "with_tie", .meth "Web" "moments", .meth "Web" "spans", .meth "Web" "ties", .meth "Web" "points", .meth "Web" "__eq__", .meth "Web" "__len__", .meth "Web" "__repr__"]
def fa : List He.Fa := fa0 ++ fa1 ++ fa2
def exl (K : PySem.W.Frag) : List Bool := []
def ex (K : PySem.W.Frag) : Bool := (exl K).all id
theorem exAt {K : PySem.W.Frag} (h : ex K = true) (i : Nat) {b : Bool} (e : (exl K)[i]? = some b) : b = true := List.all_eq_true.mp h b (List.mem_of_getElem? e)
/-- what the top has written -/
structure Tp (K : PySem.W.Frag) (mg : Str → Option Value) : Prop where
  c : He.SaysD fa fn K
  m : ex K = true
  glo : ∀ (i : Nat) (x : Str), fa[i]? = some (.glo x) → mg x = some (.ref (He.ga K x))
  free : ∀ (i : Nat) (x : Str), fa[i]? = some (.free x) → mg x = none
  int : ∀ (i : Nat) (x : Str) (n : Int), fa[i]? = some (.int x n) → ∃ u, mg x = some u ∧ RelV (.int n) u
  str : ∀ (i : Nat) (x z : Str), fa[i]? = some (.str x z) → ∃ u, mg x = some u ∧ RelV (.str z) u
theorem tp_mk {K : PySem.W.Frag} {h : Heap} {mg : Str → Option Value} (X : K.In h) (G : h.Ns mainGlobals mg) (c : He.SaysD fa fn K) (m : ex K = true) : Tp K mg :=
  ⟨c, m, fun i x e => He.glo_ok X G (c.fact i e), fun i x e => He.free_ok X G (c.fact i e), fun i x n e => let ⟨t, h⟩ := He.int_ok X G (c.fact i e); ⟨_, h, t, rfl⟩, fun i x z e => let ⟨t, h⟩ := He.str_ok X G (c.fact i e); ⟨_, h, t, rfl⟩⟩
section
variable {K : PySem.W.Frag} {mg : Str → Option Value}
theorem g_is_number (T : Tp K mg) : mg "is_number" = some (.ref (He.ga K "is_number")) := T.glo 0 _ rfl
theorem g_is_whole (T : Tp K mg) : mg "is_whole" = some (.ref (He.ga K "is_whole")) := T.glo 1 _ rfl
theorem g_is_one_of (T : Tp K mg) : mg "is_one_of" = some (.ref (He.ga K "is_one_of")) := T.glo 2 _ rfl
theorem g_is_name (T : Tp K mg) : mg "is_name" = some (.ref (He.ga K "is_name")) := T.glo 3 _ rfl
theorem g_woven (T : Tp K mg) : mg "woven" = some (.ref (He.ga K "woven")) := T.glo 4 _ rfl
theorem g_is_begin (T : Tp K mg) : mg "is_begin" = some (.ref (He.ga K "is_begin")) := T.glo 5 _ rfl
theorem g_are_lengths (T : Tp K mg) : mg "are_lengths" = some (.ref (He.ga K "are_lengths")) := T.glo 6 _ rfl
theorem g_is_lateness (T : Tp K mg) : mg "is_lateness" = some (.ref (He.ga K "is_lateness")) := T.glo 7 _ rfl
theorem g_are_bounds (T : Tp K mg) : mg "are_bounds" = some (.ref (He.ga K "are_bounds")) := T.glo 8 _ rfl
theorem g_need_free_name (T : Tp K mg) : mg "need_free_name" = some (.ref (He.ga K "need_free_name")) := T.glo 9 _ rfl
theorem g_need_point (T : Tp K mg) : mg "need_point" = some (.ref (He.ga K "need_point")) := T.glo 10 _ rfl
theorem g_deaf (T : Tp K mg) : mg "deaf" = some (.ref (He.ga K "deaf")) := T.glo 11 _ rfl
theorem g_corners (T : Tp K mg) : mg "corners" = some (.ref (He.ga K "corners")) := T.glo 12 _ rfl
theorem g_with_spans (T : Tp K mg) : mg "with_spans" = some (.ref (He.ga K "with_spans")) := T.glo 13 _ rfl
theorem g__law_flow (T : Tp K mg) : mg "_law_flow" = some (.ref (He.ga K "_law_flow")) := T.glo 14 _ rfl
theorem g__law_draw (T : Tp K mg) : mg "_law_draw" = some (.ref (He.ga K "_law_draw")) := T.glo 15 _ rfl
theorem g__law_pick (T : Tp K mg) : mg "_law_pick" = some (.ref (He.ga K "_law_pick")) := T.glo 16 _ rfl
theorem g__law_same (T : Tp K mg) : mg "_law_same" = some (.ref (He.ga K "_law_same")) := T.glo 17 _ rfl
theorem g__law_names (T : Tp K mg) : mg "_law_names" = some (.ref (He.ga K "_law_names")) := T.glo 18 _ rfl
theorem g__law_model (T : Tp K mg) : mg "_law_model" = some (.ref (He.ga K "_law_model")) := T.glo 19 _ rfl
theorem g__law_points (T : Tp K mg) : mg "_law_points" = some (.ref (He.ga K "_law_points")) := T.glo 20 _ rfl
theorem g__law_web (T : Tp K mg) : mg "_law_web" = some (.ref (He.ga K "_law_web")) := T.glo 21 _ rfl
theorem g__law_wind (T : Tp K mg) : mg "_law_wind" = some (.ref (He.ga K "_law_wind")) := T.glo 22 _ rfl
theorem g__law_bond (T : Tp K mg) : mg "_law_bond" = some (.ref (He.ga K "_law_bond")) := T.glo 23 _ rfl
theorem g__law_drawn (T : Tp K mg) : mg "_law_drawn" = some (.ref (He.ga K "_law_drawn")) := T.glo 24 _ rfl
theorem g__law_stands (T : Tp K mg) : mg "_law_stands" = some (.ref (He.ga K "_law_stands")) := T.glo 25 _ rfl
theorem g__law_copy (T : Tp K mg) : mg "_law_copy" = some (.ref (He.ga K "_law_copy")) := T.glo 26 _ rfl
theorem g__law_corner_rows (T : Tp K mg) : mg "_law_corner_rows" = some (.ref (He.ga K "_law_corner_rows")) := T.glo 27 _ rfl
theorem g_law (T : Tp K mg) : mg "law" = some (.ref (He.ga K "law")) := T.glo 28 _ rfl
theorem z_isinstance (T : Tp K mg) : mg "isinstance" = none := T.free 29 _ rfl
theorem z_int (T : Tp K mg) : mg "int" = none := T.free 30 _ rfl
theorem z_bool (T : Tp K mg) : mg "bool" = none := T.free 31 _ rfl
theorem z_str (T : Tp K mg) : mg "str" = none := T.free 32 _ rfl
theorem z_all (T : Tp K mg) : mg "all" = none := T.free 33 _ rfl
theorem z_len (T : Tp K mg) : mg "len" = none := T.free 34 _ rfl
theorem z_list (T : Tp K mg) : mg "list" = none := T.free 35 _ rfl
theorem z_tuple (T : Tp K mg) : mg "tuple" = none := T.free 36 _ rfl
theorem z_abs (T : Tp K mg) : mg "abs" = none := T.free 37 _ rfl
theorem z_dict (T : Tp K mg) : mg "dict" = none := T.free 38 _ rfl
theorem z_range (T : Tp K mg) : mg "range" = none := T.free 39 _ rfl
theorem z_repr (T : Tp K mg) : mg "repr" = none := T.free 40 _ rfl
theorem c_LETTERS (T : Tp K mg) : ∃ u, mg "LETTERS" = some u ∧ RelV (.str "abcdefghijklmnopqrstuvwxyz") u := T.str 41 _ _ rfl
theorem c_LONGEST_NAME (T : Tp K mg) : ∃ u, mg "LONGEST_NAME" = some u ∧ RelV (.int 8) u := T.int 42 _ _ rfl
theorem c_BY (T : Tp K mg) : ∃ u, mg "BY" = some u ∧ RelV (.int 100) u := T.int 43 _ _ rfl
theorem c_START (T : Tp K mg) : ∃ u, mg "START" = some u ∧ RelV (.str "start") u := T.str 44 _ _ rfl
theorem c_MOST_BY (T : Tp K mg) : ∃ u, mg "MOST_BY" = some u ∧ RelV (.int 1000) u := T.int 45 _ _ rfl
theorem c_MOST_MOMENTS (T : Tp K mg) : ∃ u, mg "MOST_MOMENTS" = some u ∧ RelV (.int 10) u := T.int 46 _ _ rfl
theorem c_MOST_SPANS (T : Tp K mg) : ∃ u, mg "MOST_SPANS" = some u ∧ RelV (.int 4) u := T.int 47 _ _ rfl
theorem c_MOST_TIES (T : Tp K mg) : ∃ u, mg "MOST_TIES" = some u ∧ RelV (.int 40) u := T.int 48 _ _ rfl
theorem c_MOST_LENGTH (T : Tp K mg) : ∃ u, mg "MOST_LENGTH" = some u ∧ RelV (.int 1000) u := T.int 49 _ _ rfl
theorem c_MOST_LATE (T : Tp K mg) : ∃ u, mg "MOST_LATE" = some u ∧ RelV (.int 1000) u := T.int 50 _ _ rfl
theorem c_MOST_BOUND (T : Tp K mg) : ∃ u, mg "MOST_BOUND" = some u ∧ RelV (.int 1000) u := T.int 51 _ _ rfl
theorem g_Web (T : Tp K mg) : mg "Web" = some (.ref (He.ga K "Web")) := T.glo 52 _ rfl
theorem cl_Web (T : Tp K mg) : Cls K (He.ga K "Web") := He.cls_ok (T.c.fact 53 (f := .cls "Web") rfl)
theorem mk_Web (T : Tp K mg) : Mk K (He.ga K "Web") (He.ma K (He.ga K "Web") "__init__") := He.mkr_ok (T.c.fact 54 (f := .mkr "Web") rfl)
theorem na_by (T : Tp K mg) : NoAttr K (He.ga K "Web") "by" := He.noat_ok (T.c.fact 55 (f := .noat "Web" "by") rfl)
theorem na_moment_rows (T : Tp K mg) : NoAttr K (He.ga K "Web") "moment_rows" := He.noat_ok (T.c.fact 56 (f := .noat "Web" "moment_rows") rfl)
theorem na_span_rows (T : Tp K mg) : NoAttr K (He.ga K "Web") "span_rows" := He.noat_ok (T.c.fact 57 (f := .noat "Web" "span_rows") rfl)
theorem na_tie_rows (T : Tp K mg) : NoAttr K (He.ga K "Web") "tie_rows" := He.noat_ok (T.c.fact 58 (f := .noat "Web" "tie_rows") rfl)
theorem na_bool (T : Tp K mg) : NoAttr K (He.ga K "Web") "__bool__" := He.noat_ok (T.c.fact 59 (f := .noat "Web" "__bool__") rfl)
theorem me_Web_UinitU (T : Tp K mg) : Meth K (He.ga K "Web") "__init__" (He.ma K (He.ga K "Web") "__init__") := He.meth_ok (T.c.fact 60 (f := .meth "Web" "__init__") rfl)
theorem me_Web_with_moment (T : Tp K mg) : Meth K (He.ga K "Web") "with_moment" (He.ma K (He.ga K "Web") "with_moment") := He.meth_ok (T.c.fact 61 (f := .meth "Web" "with_moment") rfl)
theorem me_Web_with_span (T : Tp K mg) : Meth K (He.ga K "Web") "with_span" (He.ma K (He.ga K "Web") "with_span") := He.meth_ok (T.c.fact 62 (f := .meth "Web" "with_span") rfl)
theorem me_Web_with_tie (T : Tp K mg) : Meth K (He.ga K "Web") "with_tie" (He.ma K (He.ga K "Web") "with_tie") := He.meth_ok (T.c.fact 63 (f := .meth "Web" "with_tie") rfl)
theorem me_Web_moments (T : Tp K mg) : Meth K (He.ga K "Web") "moments" (He.ma K (He.ga K "Web") "moments") := He.meth_ok (T.c.fact 64 (f := .meth "Web" "moments") rfl)
theorem me_Web_spans (T : Tp K mg) : Meth K (He.ga K "Web") "spans" (He.ma K (He.ga K "Web") "spans") := He.meth_ok (T.c.fact 65 (f := .meth "Web" "spans") rfl)
theorem me_Web_ties (T : Tp K mg) : Meth K (He.ga K "Web") "ties" (He.ma K (He.ga K "Web") "ties") := He.meth_ok (T.c.fact 66 (f := .meth "Web" "ties") rfl)
theorem me_Web_points (T : Tp K mg) : Meth K (He.ga K "Web") "points" (He.ma K (He.ga K "Web") "points") := He.meth_ok (T.c.fact 67 (f := .meth "Web" "points") rfl)
theorem me_Web_UeqU (T : Tp K mg) : Meth K (He.ga K "Web") "__eq__" (He.ma K (He.ga K "Web") "__eq__") := He.meth_ok (T.c.fact 68 (f := .meth "Web" "__eq__") rfl)
theorem me_Web_UlenU (T : Tp K mg) : Meth K (He.ga K "Web") "__len__" (He.ma K (He.ga K "Web") "__len__") := He.meth_ok (T.c.fact 69 (f := .meth "Web" "__len__") rfl)
theorem me_Web_UreprU (T : Tp K mg) : Meth K (He.ga K "Web") "__repr__" (He.ma K (He.ga K "Web") "__repr__") := He.meth_ok (T.c.fact 70 (f := .meth "Web" "__repr__") rfl)
theorem f_is_number (T : Tp K mg) : ∃ fd, FunD K "is_number" "is_number" (defArgs s_is_number) (defBody s_is_number) (defScope s_is_number) [] [] (He.ga K "is_number") fd := T.c.def_ 0 (d := d_is_number) rfl
theorem b_is_number {f : Addr} {fd : FuncData} (F : FunD K "is_number" "is_number" (defArgs s_is_number) (defBody s_is_number) (defScope s_is_number) [] [] f fd) : Binds K fd ["thing"] [] := F.bindsN fun _ _ _ _ _ _ us hl => match us, hl with | [_], _ => rfl
theorem f_is_whole (T : Tp K mg) : ∃ fd, FunD K "is_whole" "is_whole" (defArgs s_is_whole) (defBody s_is_whole) (defScope s_is_whole) [] [] (He.ga K "is_whole") fd := T.c.def_ 1 (d := d_is_whole) rfl
theorem b_is_whole {f : Addr} {fd : FuncData} (F : FunD K "is_whole" "is_whole" (defArgs s_is_whole) (defBody s_is_whole) (defScope s_is_whole) [] [] f fd) : Binds K fd ["thing", "least", "most"] [] := F.bindsN fun _ _ _ _ _ _ us hl => match us, hl with | [_, _, _], _ => rfl
theorem f_is_one_of (T : Tp K mg) : ∃ fd, FunD K "is_one_of" "is_one_of" (defArgs s_is_one_of) (defBody s_is_one_of) (defScope s_is_one_of) [] [] (He.ga K "is_one_of") fd := T.c.def_ 2 (d := d_is_one_of) rfl
theorem b_is_one_of {f : Addr} {fd : FuncData} (F : FunD K "is_one_of" "is_one_of" (defArgs s_is_one_of) (defBody s_is_one_of) (defScope s_is_one_of) [] [] f fd) : Binds K fd ["thing", "names"] [] := F.bindsN fun _ _ _ _ _ _ us hl => match us, hl with | [_, _], _ => rfl
theorem f_is_name (T : Tp K mg) : ∃ fd, FunD K "is_name" "is_name" (defArgs s_is_name) (defBody s_is_name) (defScope s_is_name) [] [] (He.ga K "is_name") fd := T.c.def_ 3 (d := d_is_name) rfl
theorem b_is_name {f : Addr} {fd : FuncData} (F : FunD K "is_name" "is_name" (defArgs s_is_name) (defBody s_is_name) (defScope s_is_name) [] [] f fd) : Binds K fd ["thing"] [] := F.bindsN fun _ _ _ _ _ _ us hl => match us, hl with | [_], _ => rfl
theorem f_Web_UinitU (T : Tp K mg) : ∃ fd, FunD K "__init__" "Web.__init__" (defArgs s_Web_UinitU) (defBody s_Web_UinitU) (defScope s_Web_UinitU) [(V.int 100 : V)] [] (He.ma K (He.ga K "Web") "__init__") fd := T.c.def_ 4 (d := d_Web_UinitU) rfl
theorem f_Web_with_moment (T : Tp K mg) : ∃ fd, FunD K "with_moment" "Web.with_moment" (defArgs s_Web_with_moment) (defBody s_Web_with_moment) (defScope s_Web_with_moment) [] [] (He.ma K (He.ga K "Web") "with_moment") fd := T.c.def_ 5 (d := d_Web_with_moment) rfl
theorem b_Web_with_moment {f : Addr} {fd : FuncData} (F : FunD K "with_moment" "Web.with_moment" (defArgs s_Web_with_moment) (defBody s_Web_with_moment) (defScope s_Web_with_moment) [] [] f fd) : Binds K fd ["self", "name"] [] := F.bindsN fun _ _ _ _ _ _ us hl => match us, hl with | [_, _], _ => rfl
theorem f_Web_with_span (T : Tp K mg) : ∃ fd, FunD K "with_span" "Web.with_span" (defArgs s_Web_with_span) (defBody s_Web_with_span) (defScope s_Web_with_span) [] [("late", V.int 0)] (He.ma K (He.ga K "Web") "with_span") fd := T.c.def_ 6 (d := d_Web_with_span) rfl
theorem f_Web_with_tie (T : Tp K mg) : ∃ fd, FunD K "with_tie" "Web.with_tie" (defArgs s_Web_with_tie) (defBody s_Web_with_tie) (defScope s_Web_with_tie) [] [("least", V.non), ("most", V.non)] (He.ma K (He.ga K "Web") "with_tie") fd := T.c.def_ 7 (d := d_Web_with_tie) rfl
theorem f_Web_moments (T : Tp K mg) : ∃ fd, FunD K "moments" "Web.moments" (defArgs s_Web_moments) (defBody s_Web_moments) (defScope s_Web_moments) [] [] (He.ma K (He.ga K "Web") "moments") fd := T.c.def_ 8 (d := d_Web_moments) rfl
theorem b_Web_moments {f : Addr} {fd : FuncData} (F : FunD K "moments" "Web.moments" (defArgs s_Web_moments) (defBody s_Web_moments) (defScope s_Web_moments) [] [] f fd) : Binds K fd ["self"] [] := F.bindsN fun _ _ _ _ _ _ us hl => match us, hl with | [_], _ => rfl
theorem f_Web_spans (T : Tp K mg) : ∃ fd, FunD K "spans" "Web.spans" (defArgs s_Web_spans) (defBody s_Web_spans) (defScope s_Web_spans) [] [] (He.ma K (He.ga K "Web") "spans") fd := T.c.def_ 9 (d := d_Web_spans) rfl
theorem b_Web_spans {f : Addr} {fd : FuncData} (F : FunD K "spans" "Web.spans" (defArgs s_Web_spans) (defBody s_Web_spans) (defScope s_Web_spans) [] [] f fd) : Binds K fd ["self"] [] := F.bindsN fun _ _ _ _ _ _ us hl => match us, hl with | [_], _ => rfl
theorem f_Web_ties (T : Tp K mg) : ∃ fd, FunD K "ties" "Web.ties" (defArgs s_Web_ties) (defBody s_Web_ties) (defScope s_Web_ties) [] [] (He.ma K (He.ga K "Web") "ties") fd := T.c.def_ 10 (d := d_Web_ties) rfl
theorem b_Web_ties {f : Addr} {fd : FuncData} (F : FunD K "ties" "Web.ties" (defArgs s_Web_ties) (defBody s_Web_ties) (defScope s_Web_ties) [] [] f fd) : Binds K fd ["self"] [] := F.bindsN fun _ _ _ _ _ _ us hl => match us, hl with | [_], _ => rfl
theorem f_Web_points (T : Tp K mg) : ∃ fd, FunD K "points" "Web.points" (defArgs s_Web_points) (defBody s_Web_points) (defScope s_Web_points) [] [] (He.ma K (He.ga K "Web") "points") fd := T.c.def_ 11 (d := d_Web_points) rfl
theorem b_Web_points {f : Addr} {fd : FuncData} (F : FunD K "points" "Web.points" (defArgs s_Web_points) (defBody s_Web_points) (defScope s_Web_points) [] [] f fd) : Binds K fd ["self"] [] := F.bindsN fun _ _ _ _ _ _ us hl => match us, hl with | [_], _ => rfl
theorem f_Web_UeqU (T : Tp K mg) : ∃ fd, FunD K "__eq__" "Web.__eq__" (defArgs s_Web_UeqU) (defBody s_Web_UeqU) (defScope s_Web_UeqU) [] [] (He.ma K (He.ga K "Web") "__eq__") fd := T.c.def_ 12 (d := d_Web_UeqU) rfl
theorem b_Web_UeqU {f : Addr} {fd : FuncData} (F : FunD K "__eq__" "Web.__eq__" (defArgs s_Web_UeqU) (defBody s_Web_UeqU) (defScope s_Web_UeqU) [] [] f fd) : Binds K fd ["self", "other"] [] := F.bindsN fun _ _ _ _ _ _ us hl => match us, hl with | [_, _], _ => rfl
theorem f_Web_UlenU (T : Tp K mg) : ∃ fd, FunD K "__len__" "Web.__len__" (defArgs s_Web_UlenU) (defBody s_Web_UlenU) (defScope s_Web_UlenU) [] [] (He.ma K (He.ga K "Web") "__len__") fd := T.c.def_ 13 (d := d_Web_UlenU) rfl
theorem b_Web_UlenU {f : Addr} {fd : FuncData} (F : FunD K "__len__" "Web.__len__" (defArgs s_Web_UlenU) (defBody s_Web_UlenU) (defScope s_Web_UlenU) [] [] f fd) : Binds K fd ["self"] [] := F.bindsN fun _ _ _ _ _ _ us hl => match us, hl with | [_], _ => rfl
theorem f_Web_UreprU (T : Tp K mg) : ∃ fd, FunD K "__repr__" "Web.__repr__" (defArgs s_Web_UreprU) (defBody s_Web_UreprU) (defScope s_Web_UreprU) [] [] (He.ma K (He.ga K "Web") "__repr__") fd := T.c.def_ 14 (d := d_Web_UreprU) rfl
theorem b_Web_UreprU {f : Addr} {fd : FuncData} (F : FunD K "__repr__" "Web.__repr__" (defArgs s_Web_UreprU) (defBody s_Web_UreprU) (defScope s_Web_UreprU) [] [] f fd) : Binds K fd ["self"] [] := F.bindsN fun _ _ _ _ _ _ us hl => match us, hl with | [_], _ => rfl
theorem f_woven (T : Tp K mg) : ∃ fd, FunD K "woven" "woven" (defArgs s_woven) (defBody s_woven) (defScope s_woven) [] [] (He.ga K "woven") fd := T.c.def_ 15 (d := d_woven) rfl
theorem b_woven {f : Addr} {fd : FuncData} (F : FunD K "woven" "woven" (defArgs s_woven) (defBody s_woven) (defScope s_woven) [] [] f fd) : Binds K fd ["by", "moments", "spans", "ties"] [] := F.bindsN fun _ _ _ _ _ _ us hl => match us, hl with | [_, _, _, _], _ => rfl
theorem f_is_begin (T : Tp K mg) : ∃ fd, FunD K "is_begin" "is_begin" (defArgs s_is_begin) (defBody s_is_begin) (defScope s_is_begin) [] [] (He.ga K "is_begin") fd := T.c.def_ 16 (d := d_is_begin) rfl
theorem b_is_begin {f : Addr} {fd : FuncData} (F : FunD K "is_begin" "is_begin" (defArgs s_is_begin) (defBody s_is_begin) (defScope s_is_begin) [] [] f fd) : Binds K fd ["web", "name"] [] := F.bindsN fun _ _ _ _ _ _ us hl => match us, hl with | [_, _], _ => rfl
theorem f_are_lengths (T : Tp K mg) : ∃ fd, FunD K "are_lengths" "are_lengths" (defArgs s_are_lengths) (defBody s_are_lengths) (defScope s_are_lengths) [] [] (He.ga K "are_lengths") fd := T.c.def_ 17 (d := d_are_lengths) rfl
theorem b_are_lengths {f : Addr} {fd : FuncData} (F : FunD K "are_lengths" "are_lengths" (defArgs s_are_lengths) (defBody s_are_lengths) (defScope s_are_lengths) [] [] f fd) : Binds K fd ["low", "high"] [] := F.bindsN fun _ _ _ _ _ _ us hl => match us, hl with | [_, _], _ => rfl
theorem f_is_lateness (T : Tp K mg) : ∃ fd, FunD K "is_lateness" "is_lateness" (defArgs s_is_lateness) (defBody s_is_lateness) (defScope s_is_lateness) [] [] (He.ga K "is_lateness") fd := T.c.def_ 18 (d := d_is_lateness) rfl
theorem b_is_lateness {f : Addr} {fd : FuncData} (F : FunD K "is_lateness" "is_lateness" (defArgs s_is_lateness) (defBody s_is_lateness) (defScope s_is_lateness) [] [] f fd) : Binds K fd ["late"] [] := F.bindsN fun _ _ _ _ _ _ us hl => match us, hl with | [_], _ => rfl
theorem f_are_bounds (T : Tp K mg) : ∃ fd, FunD K "are_bounds" "are_bounds" (defArgs s_are_bounds) (defBody s_are_bounds) (defScope s_are_bounds) [] [] (He.ga K "are_bounds") fd := T.c.def_ 19 (d := d_are_bounds) rfl
theorem b_are_bounds {f : Addr} {fd : FuncData} (F : FunD K "are_bounds" "are_bounds" (defArgs s_are_bounds) (defBody s_are_bounds) (defScope s_are_bounds) [] [] f fd) : Binds K fd ["least", "most"] [] := F.bindsN fun _ _ _ _ _ _ us hl => match us, hl with | [_, _], _ => rfl
theorem f_need_free_name (T : Tp K mg) : ∃ fd, FunD K "need_free_name" "need_free_name" (defArgs s_need_free_name) (defBody s_need_free_name) (defScope s_need_free_name) [] [] (He.ga K "need_free_name") fd := T.c.def_ 20 (d := d_need_free_name) rfl
theorem b_need_free_name {f : Addr} {fd : FuncData} (F : FunD K "need_free_name" "need_free_name" (defArgs s_need_free_name) (defBody s_need_free_name) (defScope s_need_free_name) [] [] f fd) : Binds K fd ["web", "name"] [] := F.bindsN fun _ _ _ _ _ _ us hl => match us, hl with | [_, _], _ => rfl
theorem f_need_point (T : Tp K mg) : ∃ fd, FunD K "need_point" "need_point" (defArgs s_need_point) (defBody s_need_point) (defScope s_need_point) [] [] (He.ga K "need_point") fd := T.c.def_ 21 (d := d_need_point) rfl
theorem b_need_point {f : Addr} {fd : FuncData} (F : FunD K "need_point" "need_point" (defArgs s_need_point) (defBody s_need_point) (defScope s_need_point) [] [] f fd) : Binds K fd ["web", "name"] [] := F.bindsN fun _ _ _ _ _ _ us hl => match us, hl with | [_, _], _ => rfl
theorem f_deaf (T : Tp K mg) : ∃ fd, FunD K "deaf" "deaf" (defArgs s_deaf) (defBody s_deaf) (defScope s_deaf) [] [] (He.ga K "deaf") fd := T.c.def_ 22 (d := d_deaf) rfl
theorem b_deaf {f : Addr} {fd : FuncData} (F : FunD K "deaf" "deaf" (defArgs s_deaf) (defBody s_deaf) (defScope s_deaf) [] [] f fd) : Binds K fd ["web"] [] := F.bindsN fun _ _ _ _ _ _ us hl => match us, hl with | [_], _ => rfl
theorem f_corners (T : Tp K mg) : ∃ fd, FunD K "corners" "corners" (defArgs s_corners) (defBody s_corners) (defScope s_corners) [] [] (He.ga K "corners") fd := T.c.def_ 23 (d := d_corners) rfl
theorem b_corners {f : Addr} {fd : FuncData} (F : FunD K "corners" "corners" (defArgs s_corners) (defBody s_corners) (defScope s_corners) [] [] f fd) : Binds K fd ["web"] [] := F.bindsN fun _ _ _ _ _ _ us hl => match us, hl with | [_], _ => rfl
theorem f_with_spans (T : Tp K mg) : ∃ fd, FunD K "with_spans" "with_spans" (defArgs s_with_spans) (defBody s_with_spans) (defScope s_with_spans) [] [] (He.ga K "with_spans") fd := T.c.def_ 24 (d := d_with_spans) rfl
theorem b_with_spans {f : Addr} {fd : FuncData} (F : FunD K "with_spans" "with_spans" (defArgs s_with_spans) (defBody s_with_spans) (defScope s_with_spans) [] [] f fd) : Binds K fd ["web", "spans"] [] := F.bindsN fun _ _ _ _ _ _ us hl => match us, hl with | [_, _], _ => rfl
theorem f__law_flow (T : Tp K mg) : ∃ fd, FunD K "_law_flow" "_law_flow" (defArgs s__law_flow) (defBody s__law_flow) (defScope s__law_flow) [] [] (He.ga K "_law_flow") fd := T.c.def_ 25 (d := d__law_flow) rfl
theorem b__law_flow {f : Addr} {fd : FuncData} (F : FunD K "_law_flow" "_law_flow" (defArgs s__law_flow) (defBody s__law_flow) (defScope s__law_flow) [] [] f fd) : Binds K fd ["_law_script"] [] := F.bindsN fun _ _ _ _ _ _ us hl => match us, hl with | [_], _ => rfl
theorem f__law_draw (T : Tp K mg) : ∃ fd, FunD K "_law_draw" "_law_draw" (defArgs s__law_draw) (defBody s__law_draw) (defScope s__law_draw) [] [] (He.ga K "_law_draw") fd := T.c.def_ 26 (d := d__law_draw) rfl
theorem b__law_draw {f : Addr} {fd : FuncData} (F : FunD K "_law_draw" "_law_draw" (defArgs s__law_draw) (defBody s__law_draw) (defScope s__law_draw) [] [] f fd) : Binds K fd ["_law_flow_here", "_law_size"] [] := F.bindsN fun _ _ _ _ _ _ us hl => match us, hl with | [_, _], _ => rfl
theorem f__law_pick (T : Tp K mg) : ∃ fd, FunD K "_law_pick" "_law_pick" (defArgs s__law_pick) (defBody s__law_pick) (defScope s__law_pick) [] [] (He.ga K "_law_pick") fd := T.c.def_ 27 (d := d__law_pick) rfl
theorem b__law_pick {f : Addr} {fd : FuncData} (F : FunD K "_law_pick" "_law_pick" (defArgs s__law_pick) (defBody s__law_pick) (defScope s__law_pick) [] [] f fd) : Binds K fd ["_law_flow_here", "_law_row"] [] := F.bindsN fun _ _ _ _ _ _ us hl => match us, hl with | [_, _], _ => rfl
theorem f__law_same (T : Tp K mg) : ∃ fd, FunD K "_law_same" "_law_same" (defArgs s__law_same) (defBody s__law_same) (defScope s__law_same) [] [] (He.ga K "_law_same") fd := T.c.def_ 28 (d := d__law_same) rfl
theorem b__law_same {f : Addr} {fd : FuncData} (F : FunD K "_law_same" "_law_same" (defArgs s__law_same) (defBody s__law_same) (defScope s__law_same) [] [] f fd) : Binds K fd ["_law_found", "_law_due"] [] := F.bindsN fun _ _ _ _ _ _ us hl => match us, hl with | [_, _], _ => rfl
theorem f__law_names (T : Tp K mg) : ∃ fd, FunD K "_law_names" "_law_names" (defArgs s__law_names) (defBody s__law_names) (defScope s__law_names) [] [] (He.ga K "_law_names") fd := T.c.def_ 29 (d := d__law_names) rfl
theorem b__law_names {f : Addr} {fd : FuncData} (F : FunD K "_law_names" "_law_names" (defArgs s__law_names) (defBody s__law_names) (defScope s__law_names) [] [] f fd) : Binds K fd ["_law_flow_here", "_law_many"] [] := F.bindsN fun _ _ _ _ _ _ us hl => match us, hl with | [_, _], _ => rfl
theorem f__law_model (T : Tp K mg) : ∃ fd, FunD K "_law_model" "_law_model" (defArgs s__law_model) (defBody s__law_model) (defScope s__law_model) [] [] (He.ga K "_law_model") fd := T.c.def_ 30 (d := d__law_model) rfl
theorem b__law_model {f : Addr} {fd : FuncData} (F : FunD K "_law_model" "_law_model" (defArgs s__law_model) (defBody s__law_model) (defScope s__law_model) [] [] f fd) : Binds K fd ["_law_last"] [] := F.bindsN fun _ _ _ _ _ _ us hl => match us, hl with | [_], _ => rfl
theorem f__law_points (T : Tp K mg) : ∃ fd, FunD K "_law_points" "_law_points" (defArgs s__law_points) (defBody s__law_points) (defScope s__law_points) [] [] (He.ga K "_law_points") fd := T.c.def_ 31 (d := d__law_points) rfl
theorem b__law_points {f : Addr} {fd : FuncData} (F : FunD K "_law_points" "_law_points" (defArgs s__law_points) (defBody s__law_points) (defScope s__law_points) [] [] f fd) : Binds K fd ["_law_m"] [] := F.bindsN fun _ _ _ _ _ _ us hl => match us, hl with | [_], _ => rfl
theorem f__law_web (T : Tp K mg) : ∃ fd, FunD K "_law_web" "_law_web" (defArgs s__law_web) (defBody s__law_web) (defScope s__law_web) [] [] (He.ga K "_law_web") fd := T.c.def_ 32 (d := d__law_web) rfl
theorem b__law_web {f : Addr} {fd : FuncData} (F : FunD K "_law_web" "_law_web" (defArgs s__law_web) (defBody s__law_web) (defScope s__law_web) [] [] f fd) : Binds K fd ["_law_m"] [] := F.bindsN fun _ _ _ _ _ _ us hl => match us, hl with | [_], _ => rfl
theorem f__law_wind (T : Tp K mg) : ∃ fd, FunD K "_law_wind" "_law_wind" (defArgs s__law_wind) (defBody s__law_wind) (defScope s__law_wind) [] [] (He.ga K "_law_wind") fd := T.c.def_ 33 (d := d__law_wind) rfl
theorem b__law_wind {f : Addr} {fd : FuncData} (F : FunD K "_law_wind" "_law_wind" (defArgs s__law_wind) (defBody s__law_wind) (defScope s__law_wind) [] [] f fd) : Binds K fd ["_law_flow_here", "_law_end", "_law_own", "_law_far"] [] := F.bindsN fun _ _ _ _ _ _ us hl => match us, hl with | [_, _, _, _], _ => rfl
theorem f__law_bond (T : Tp K mg) : ∃ fd, FunD K "_law_bond" "_law_bond" (defArgs s__law_bond) (defBody s__law_bond) (defScope s__law_bond) [] [] (He.ga K "_law_bond") fd := T.c.def_ 34 (d := d__law_bond) rfl
theorem b__law_bond {f : Addr} {fd : FuncData} (F : FunD K "_law_bond" "_law_bond" (defArgs s__law_bond) (defBody s__law_bond) (defScope s__law_bond) [] [] f fd) : Binds K fd ["_law_flow_here", "_law_points_here", "_law_far"] [] := F.bindsN fun _ _ _ _ _ _ us hl => match us, hl with | [_, _, _], _ => rfl
theorem f__law_drawn (T : Tp K mg) : ∃ fd, FunD K "_law_drawn" "_law_drawn" (defArgs s__law_drawn) (defBody s__law_drawn) (defScope s__law_drawn) [] [] (He.ga K "_law_drawn") fd := T.c.def_ 35 (d := d__law_drawn) rfl
theorem b__law_drawn {f : Addr} {fd : FuncData} (F : FunD K "_law_drawn" "_law_drawn" (defArgs s__law_drawn) (defBody s__law_drawn) (defScope s__law_drawn) [] [] f fd) : Binds K fd ["_law_flow_here", "_law_own", "_law_winds", "_law_bonds", "_law_far", "_law_last"] [] := F.bindsN fun _ _ _ _ _ _ us hl => match us, hl with | [_, _, _, _, _, _], _ => rfl
theorem f__law_stands (T : Tp K mg) : ∃ fd, FunD K "_law_stands" "_law_stands" (defArgs s__law_stands) (defBody s__law_stands) (defScope s__law_stands) [] [] (He.ga K "_law_stands") fd := T.c.def_ 36 (d := d__law_stands) rfl
theorem b__law_stands {f : Addr} {fd : FuncData} (F : FunD K "_law_stands" "_law_stands" (defArgs s__law_stands) (defBody s__law_stands) (defScope s__law_stands) [] [] f fd) : Binds K fd ["_law_web_here", "_law_m"] [] := F.bindsN fun _ _ _ _ _ _ us hl => match us, hl with | [_, _], _ => rfl
theorem f__law_copy (T : Tp K mg) : ∃ fd, FunD K "_law_copy" "_law_copy" (defArgs s__law_copy) (defBody s__law_copy) (defScope s__law_copy) [] [] (He.ga K "_law_copy") fd := T.c.def_ 37 (d := d__law_copy) rfl
theorem b__law_copy {f : Addr} {fd : FuncData} (F : FunD K "_law_copy" "_law_copy" (defArgs s__law_copy) (defBody s__law_copy) (defScope s__law_copy) [] [] f fd) : Binds K fd ["_law_m"] [] := F.bindsN fun _ _ _ _ _ _ us hl => match us, hl with | [_], _ => rfl
theorem f__law_corner_rows (T : Tp K mg) : ∃ fd, FunD K "_law_corner_rows" "_law_corner_rows" (defArgs s__law_corner_rows) (defBody s__law_corner_rows) (defScope s__law_corner_rows) [] [] (He.ga K "_law_corner_rows") fd := T.c.def_ 38 (d := d__law_corner_rows) rfl
theorem b__law_corner_rows {f : Addr} {fd : FuncData} (F : FunD K "_law_corner_rows" "_law_corner_rows" (defArgs s__law_corner_rows) (defBody s__law_corner_rows) (defScope s__law_corner_rows) [] [] f fd) : Binds K fd ["_law_m"] [] := F.bindsN fun _ _ _ _ _ _ us hl => match us, hl with | [_], _ => rfl
theorem f_law (T : Tp K mg) : ∃ fd, FunD K "law" "law" (defArgs s_law) (defBody s_law) (defScope s_law) [] [] (He.ga K "law") fd := T.c.def_ 39 (d := d_law) rfl
theorem b_law {f : Addr} {fd : FuncData} (F : FunD K "law" "law" (defArgs s_law) (defBody s_law) (defScope s_law) [] [] f fd) : Binds K fd ["_law_script"] [] := F.bindsN fun _ _ _ _ _ _ us hl => match us, hl with | [_], _ => rfl
end
/-! the head -/
def loose0 : List PySem.Str := ["_wall", "__name__", "LETTERS", "LONGEST_NAME", "is_number", "is_whole", "is_one_of", "is_name", "TideError", "BadBy", "BadName", "Taken", "Full", "BadLength", "BadLate", "BadTie", "Missing", "NoMoment", "NoPoint", "BY", "START", "MOST_BY", "MOST_MOMENTS", "MOST_SPANS", "MOST_TIES", "MOST_LENGTH", "MOST_LATE", "MOST_BOUND", "Web", "woven"]
def loose1 : List PySem.Str := ["is_begin", "are_lengths", "is_lateness", "are_bounds", "need_free_name", "need_point", "deaf", "corners", "with_spans", "_law_flow", "_law_draw", "_law_pick", "_law_same", "_law_names", "_law_model", "_law_points", "_law_web", "_law_wind", "_law_bond", "_law_drawn", "_law_stands", "_law_copy", "_law_corner_rows"]
def loose : List PySem.Str := loose0 ++ loose1
abbrev R : PySem.W.OpenRow := PySem.W.OpenLaw.row PySem.Challenge.rw_tidewaiter_k42_deaf_webs_and_corners
abbrev hk : PySem.W.Hook := He.hookD 5 fa fn
def ob (s : PySem.W.SharedT) : He.AlD := He.obsDG 5 fa fn (HandSHeadRun.getT s)
theorem ob_eq (s : PySem.W.SharedT) : ob s = hk.obs s.abs := He.obsDG_eq (HandSHeadRun.getT_eq s)
abbrev lawAt : Nat := 57
end Tw

set_option maxHeartbeats 0
namespace Tw
open PySem PySem.Spec PyProof.Rows L2
theorem run (w : World) : HandSHeadRun.RunEq R (PySem.W.view R.prog [lawAt]) hk ob 8000 loose w := by
  intro os
  kernel_rfl
end Tw

set_option maxHeartbeats 4000000
/-! comprehensions whose block changes nothing -/
namespace Tw
open PySem PySem.Spec PyProof.Rows L2
section
variable {α β : Type} {J : It} {G : Hp → Prop} {Y : Nat → Hp → V → Hp → Prop} {g : TG} {tt : TT} {te : TE} {vs : List Nat} {σ : L2.St} {H0 : Hp} {D : Addr} {Qd : Hp → Prop}
/-- [elt for target in source if test]: as the source's items as data, f the item's own (none: left out), S what a told item is -/
theorem lc_pure (as : List α) (w : Walk J as.length G Y) (f : α → Option β) (S : Hp → V → β → Prop) (Sk : ∀ {H H' v b}, Kt H H' → S H v b → S H' v b) (nD : H0 D = none) (hn : as.length ≤ 1000) (hG : ∀ H, Same H0 H → G H)
    (hs : ∀ i a x H H', as[i]? = some a → Same H0 H → Y i H x H' → ∀ (Good : V → Hp → Prop) (Bad : Hp → Prop), (∀ y c H4, f a = some c → Same H H4 → S H4 y c → Good y H4) → (f a = none → ∀ H3, Same H H3 → Bad H3) →
      g x (wipe σ vs) H' fun σ2 H2 => wipe σ2 vs = wipe σ vs ∧ tt σ2 H2 fun b H3 => if b = true then te σ2 H3 Good else Bad H3)
    (hd : ∀ H acc, Same H0 H → H D = some (.lst acc) → Paired (S H) acc (as.filterMap f) → Qd H) :
    ∃ W : Nat → Nat → Hp → Prop, (∃ m, W 0 m (upd H0 D (.lst []))) ∧ ∀ i m H, W i m H →
      (J.stop i H ∧ Qd H) ∨ (J.go i H ∧ ∃ Nx : Hp → Prop, (∀ H', Nx H' → ∃ m', m' < m ∧ W (i + 1) m' H') ∧ ∀ x H', J.yld i H x H' → g x (wipe σ vs) H' fun σ2 H2 => wipe σ2 vs = wipe σ vs ∧ tt σ2 H2 fun b H3 =>
        if b = true then te σ2 H3 fun y H4 => ∃ acc, H4 D = some (.lst acc) ∧ acc.length < sizeLine ∧ Nx (upd H4 D (.lst (acc ++ [y]))) else Nx H3) := by
  refine lc_it w (fun i H => Same H0 H ∧ ∃ acc, H D = some (.lst acc) ∧ Paired (S H) acc ((as.take i).filterMap f)) ⟨same_upd nD, [], upd_same, .nil⟩ (fun _ H _ h => hG H h.1) ?_ ?_
  · rintro i x H H' hi ⟨s1, acc, d1, p1⟩ y
    obtain ⟨a, ea⟩ : ∃ a, as[i]? = some a := ⟨as[i], by simp [hi]⟩
    have e2 : (as.take (i + 1)).filterMap f = (as.take i).filterMap f ++ (f a).toList := by
      rw [List.take_add_one, ea, List.filterMap_append]
      cases h : f a <;> simp [List.filterMap, h]
    refine hs i a x H H' ea s1 y _ _ (fun z c H4 ec s4 hz => ⟨acc, s4 _ _ d1, ?_, ?_, acc ++ [z], upd_same, ?_⟩) (fun en H3 s3 => ⟨s1.trans s3, acc, s3 _ _ d1, ?_⟩)
    · have hl := Paired.length p1
      have h2 : ((as.take i).filterMap f).length ≤ as.length := Nat.le_trans (List.length_filterMap_le _ _) (by rw [List.length_take]; omega)
      exact small1000 (by omega)
    · intro b o e
      rw [upd_ne (ne_of_none e nD)]
      exact s4 _ _ (s1 b o e)
    · rw [e2, ec]
      have kk : Kt H4 (upd H4 D (.lst (acc ++ [z]))) := Kt.upd fun xs e => by
        rw [s4 _ _ d1] at e
        cases e
      exact Paired.snoc (Paired.mono (fun v b h => Sk kk (Sk (Kt.of s4) h)) p1) (Sk kk hz)
    · rw [e2, en]
      show Paired _ _ (_ ++ [])
      rw [List.append_nil]
      exact Paired.mono (fun v b h => Sk (Kt.of s3) h) p1
  · rintro H ⟨s1, acc, d1, p1⟩
    rw [List.take_of_length_le (Nat.le_refl _)] at p1
    exact hd H acc s1 d1 p1
end
theorem walk_listN {K : PySem.W.Frag} {a : Addr} {xs : List V} {n : Nat} (h : xs.length = n) : Walk (Itl K a) n (fun H => SqL K H a xs) (YAt xs) := h ▸ walk_list
theorem walk_tupN {K : PySem.W.Frag} {a : Addr} {xs : List V} {n : Nat} (h : xs.length = n) : Walk (Itt K a) n (fun H => SqT K H a xs) (YAt xs) := h ▸ walk_tup
theorem sl_tupK {X : Cx} {K : PySem.W.Frag} (h : X.K = K) : SlR X (rSlT K) := h ▸ sl_tup
theorem sl_listK {X : Cx} {K : PySem.W.Frag} (h : X.K = K) : SlR X (rSlL K) := h ▸ sl_list
theorem flat_bls (l : List Bool) : (l.map V.bl).all flatV = true := by
  rw [List.all_map]
  exact List.all_eq_true.mpr fun _ _ => rfl
/-- a told item that is plain -/
def SV {β : Type} (enc : β → V) : Hp → V → β → Prop := fun _ v b => v = enc b
theorem paired_enc {β : Type} {enc : β → V} {H : Hp} : ∀ {acc : List V} {bs : List β}, Paired (SV enc H) acc bs → acc = bs.map enc
  | _, _, .nil => rfl
  | _, _, .cons h t => by
    rw [List.map_cons, ← paired_enc t, ← show _ = _ from h]
/-- a told item that is a tuple -/
def SR {β : Type} (row : β → List V) : Hp → V → β → Prop := fun H v b => ∃ t, v = .ref t ∧ H t = some (.tup (row b))
theorem sr_k {β : Type} {row : β → List V} {H H' : Hp} {v : V} {b : β} (k : Kt H H') (h : SR row H v b) : SR row H' v b := by
  obtain ⟨t, e, ht⟩ := h
  exact ⟨t, e, k _ _ ht⟩
theorem paired_rows {β : Type} {row : β → List V} {H : Hp} : ∀ {acc : List V} {bs : List β}, Paired (SR row H) acc bs → Rows H acc (bs.map row)
  | _, _, .nil => .nil
  | _, _, .cons h t => .cons h (paired_rows t)
theorem rows_at {β : Type} {row : β → List V} {H : Hp} {xs : List V} {bs : List β} {i : Nat} {x : V} {b : β} (h : Rows H xs (bs.map row)) (e : xs[i]? = some x) (eb : bs[i]? = some b) : ∃ t, x = .ref t ∧ H t = some (.tup (row b)) := by
  obtain ⟨t, r, h1, h2, h3⟩ := h.at e
  rw [List.getElem?_map, eb] at h2
  cases h2
  exact ⟨t, h1, h3⟩
end Tw

set_option maxHeartbeats 4000000
namespace Tw
open PySem PySem.Spec PyProof.Rows L2
theorem flat_strs (l : List Str) : (l.map V.str).all flatV = true := by
  rw [List.all_map]
  exact List.all_eq_true.mpr fun _ _ => rfl
theorem in_strs (z : Str) (l : List Str) : inV (.str z) (l.map V.str) = decide (z ∈ l) := by
  unfold inV
  rw [List.any_map]
  induction l with
  | nil => rfl
  | cons a r ih =>
    rw [List.any_cons, ih]
    have e : ((fun y => eqV y (.str z)) ∘ V.str) a = decide (z = a) := by
      show (a == z) = decide (z = a)
      by_cases h : z = a
      · subst h
        simp
      · rw [decide_eq_false h]
        exact beq_eq_false_iff_ne.mpr fun q => h q.symm
    rw [e]
    simp only [List.mem_cons]
    by_cases h : z = a <;> simp [h]
section
variable {P : Program} {w : World} {K : PySem.W.Frag} {mg : Str → Option Value} {base : Heap}
/-! ### is_number, is_whole, is_one_of -/
/-- None, a truth, an int or a text: its kind -/
def plK : V → Option String
  | .non => some "NoneType"
  | .bl _ => some "bool"
  | .int _ => some "int"
  | .str _ => some "str"
  | _ => none
theorem plK_ty {H : Hp} {v : V} {a : String} (h : plK v = some a) : TyX K H v (.type a) ∧ a ∈ kinds := by
  cases v with
  | non => cases h; exact ⟨.base .non, by decide⟩
  | bl b => cases h; exact ⟨.base (.bl _), by decide⟩
  | int i => cases h; exact ⟨.base (.int _), by decide⟩
  | str z => cases h; exact ⟨.base (.str _), by decide⟩
  | byt b => cases h
  | flt b => cases h
  | ref b => cases h
  | ty b => cases h
def numB (a : String) : Bool := kitT a "int" && !kitT a "bool"
def sp_is_number : Sp := fun vs H Q _ => ∃ (v : V) (a : String), vs = [v] ∧ plK v = some a ∧ Q (.bl (numB a)) H
theorem cal_is_number (T : Tp K mg) : Cal P w K mg base 1 "is_number" sp_is_number := by
  obtain ⟨fd, F⟩ := f_is_number T
  refine cal_of F (g_is_number T) (b_is_number F) sc_is_number (fun vs H Q E h => ?_) (fun cdv A outer s H vs Q E hr h => ?_)
  · obtain ⟨v, a, rfl, _⟩ := h
    rfl
  · obtain ⟨v, a, rfl, hk, q⟩ := h
    obtain ⟨ty, ha⟩ := plK_ty (K := K) (H := H) hk
    refine ⟨_, (pss_one (ps_ret (pe_and (pe_callB call_isK (by rfl) (z_isinstance T) bb_isinstance (pa_cons (pv 0) (pa_cons (pe_bltn (v := .ty "int") (by rfl) (z_int T) bb_int rfl) pa_nil))) (pe_one (pe_not (pe_callB call_isK (by rfl) (z_isinstance T) bb_isinstance (pa_cons (pv 0) (pa_cons (pe_bltn (v := .ty "bool") (by rfl) (z_bool T) bb_bool rfl) pa_nil)))))))), ?_⟩
    refine ⟨_, rfl, _, "int", a, rfl, ty, ha, by decide, _, rfl, ?_⟩
    unfold numB at q
    cases e : kitT a "int" with
    | true =>
      rw [e] at q
      exact iteT ⟨_, rfl, _, "bool", a, rfl, ty, ha, by decide, _, rfl, q⟩
    | false =>
      rw [e] at q
      exact iteF q
def sp_is_whole : Sp := fun vs H Q _ => ∃ (i lo hi : Int), vs = [.int i, .int lo, .int hi] ∧ Q (.bl (decide (lo ≤ i ∧ i ≤ hi))) H
theorem cal_is_whole (T : Tp K mg) : Cal P w K mg base 2 "is_whole" sp_is_whole := by
  obtain ⟨fd, F⟩ := f_is_whole T
  refine cal_of F (g_is_whole T) (b_is_whole F) sc_is_whole (fun vs H Q E h => ?_) (fun cdv A outer s H vs Q E hr h => ?_)
  · obtain ⟨i, lo, hi, rfl, _⟩ := h
    rfl
  · obtain ⟨i, lo, hi, rfl, q⟩ := h
    refine ⟨_, (pss_one (ps_ret (pe_and (C8.pe_c (cal_is_number T) hr (by decide) rfl (pa_cons (pv 0) pa_nil)) (pe_one (pe_chain op_le op_le (pv 1) (pv 0) (pv 2)))))), ?_⟩
    refine ⟨_, rfl, .int i, "int", rfl, rfl, _, rfl, ?_⟩
    refine iteT ⟨_, rfl, _, rfl, _, _, rfl, rfl, _, rfl, ite2 (fun e => ?_) (fun e => ?_)⟩
    · have e1 : lo ≤ i := of_decide_eq_true e
      refine ⟨_, rfl, _, _, rfl, rfl, ?_⟩
      have e2 : decide (lo ≤ i ∧ i ≤ hi) = decide (i ≤ hi) := by simp [e1]
      rw [e2] at q
      exact q
    · have e1 : ¬ lo ≤ i := fun z => e (decide_eq_true z)
      have e2 : decide (lo ≤ i ∧ i ≤ hi) = false := by simp [e1]
      rw [e2] at q
      exact q
/-- is_whole of any plain value -/
def whB (lo hi : Int) : V → Bool
  | .int i => decide (lo ≤ i ∧ i ≤ hi)
  | _ => false
def sp_iswh : Sp := fun vs H Q _ => ∃ (v : V) (lo hi : Int), vs = [v, .int lo, .int hi] ∧ (plK v).isSome = true ∧ Q (.bl (whB lo hi v)) H
theorem cal_iswh (T : Tp K mg) : Cal P w K mg base 2 "is_whole" sp_iswh := by
  obtain ⟨fd, F⟩ := f_is_whole T
  refine cal_of F (g_is_whole T) (b_is_whole F) sc_is_whole (fun vs H Q E h => ?_) (fun cdv A outer s H vs Q E hr h => ?_)
  · obtain ⟨v, lo, hi, rfl, _⟩ := h
    rfl
  · obtain ⟨v, lo, hi, rfl, hk, q⟩ := h
    refine ⟨_, (pss_one (ps_ret (pe_and (C8.pe_c (cal_is_number T) hr (by decide) rfl (pa_cons (pv 0) pa_nil)) (pe_one (pe_chain op_le op_le (pv 1) (pv 0) (pv 2)))))), ?_⟩
    cases v with
    | non => exact ⟨_, rfl, .non, "NoneType", rfl, rfl, _, rfl, iteF q⟩
    | bl b => exact ⟨_, rfl, .bl b, "bool", rfl, rfl, _, rfl, iteF q⟩
    | str z => exact ⟨_, rfl, .str z, "str", rfl, rfl, _, rfl, iteF q⟩
    | byt b => cases hk
    | flt b => cases hk
    | ref b => cases hk
    | ty b => cases hk
    | int i =>
      refine ⟨_, rfl, .int i, "int", rfl, rfl, _, rfl, ?_⟩
      refine iteT ⟨_, rfl, _, rfl, _, _, rfl, rfl, _, rfl, ite2 (fun e => ?_) (fun e => ?_)⟩
      · have e1 : lo ≤ i := of_decide_eq_true e
        refine ⟨_, rfl, _, _, rfl, rfl, ?_⟩
        have e2 : decide (lo ≤ i ∧ i ≤ hi) = decide (i ≤ hi) := by simp [e1]
        have q : Q (.bl (decide (lo ≤ i ∧ i ≤ hi))) H := q
        rw [e2] at q
        exact q
      · have e1 : ¬ lo ≤ i := fun z => e (decide_eq_true z)
        have e2 : decide (lo ≤ i ∧ i ≤ hi) = false := by simp [e1]
        have q : Q (.bl (decide (lo ≤ i ∧ i ≤ hi))) H := q
        rw [e2] at q
        exact q
def sp_is_one_of : Sp := fun vs H Q _ => ∃ (z : Str) (p : Addr) (l : List Str), vs = [.str z, .ref p] ∧ H p = some (.lst (l.map V.str)) ∧ Q (.bl (decide (z ∈ l))) H
theorem cal_is_one_of (T : Tp K mg) : Cal P w K mg base 1 "is_one_of" sp_is_one_of := by
  obtain ⟨fd, F⟩ := f_is_one_of T
  refine cal_of F (g_is_one_of T) (b_is_one_of F) sc_is_one_of (fun vs H Q E h => ?_) (fun cdv A outer s H vs Q E hr h => ?_)
  · obtain ⟨z, p, l, rfl, _⟩ := h
    rfl
  · obtain ⟨z, p, l, rfl, hp, q⟩ := h
    refine ⟨_, (pss_one (ps_ret (pe_and (pe_callB call_isK (by rfl) (z_isinstance T) bb_isinstance (pa_cons (pv 0) (pa_cons (pe_bltn (v := .ty "str") (by rfl) (z_str T) bb_str rfl) pa_nil))) (pe_one (pe_cmpR op_in_seq (pv 0) (pv 1) (by rfl)))))), ?_⟩
    refine ⟨_, rfl, _, "str", "str", rfl, .base (.str _), by decide, by decide, _, rfl, iteT ⟨_, rfl, _, rfl, p, _, rfl, .inl (.inl (.inl hp)), rfl, flat_strs _, ?_⟩⟩
    show Q (.bl (inV (.str z) (l.map V.str))) _
    rw [in_strs]
    exact q
/-! ### is_name -/
def sp_is_name : Sp := fun vs H Q _ => ∃ z : Str, vs = [.str z] ∧ Nm z ∧ ∀ H', Same H H' → Q (.bl true) H'
theorem cal_is_name (T : Tp K mg) : Cal P w K mg base 2 "is_name" sp_is_name := by
  obtain ⟨fd, F⟩ := f_is_name T
  refine cal_of F (g_is_name T) (b_is_name F) sc_is_name (fun vs H Q E h => ?_) (fun cdv A outer s H vs Q E hr h => ?_)
  · obtain ⟨z, rfl, _⟩ := h
    rfl
  · obtain ⟨z, rfl, ⟨n1, n2, n3⟩, q⟩ := h
    refine ⟨_, (pss_cons (ps_if (PW.pt (pw_or (pt_not (pt_val (pe_callB call_isK (by rfl) (z_isinstance T) bb_isinstance (pa_cons (pv 0) (pa_cons (pe_bltn (v := .ty "str") (by rfl) (z_str T) bb_str rfl) pa_nil))))) (pw_or1 (pt_not (pt_chain op_le op_le pe_int (pe_callB call_len_str (by rfl) (z_len T) bb_len (pa_cons (pv 0) pa_nil)) (C8.pe_gc (by rfl) (c_LONGEST_NAME T))))))) (pss_one (ps_ret pe_bl)) pss_nil)
      (pss_one (ps_ret (pe_callB (cr_all rfl) (by rfl) (z_all T) bb_all (pa_cons (pe_lc (own := [("letter", 1)]) (g := gName 1) (tt := tYes) rfl sc_is_name.nd (pi_str (pv 0)) (blkOk_by (N := N_is_name) (sc := defScope s_is_name) (by decide +kernel)) (fun _ _ _ _ _ => (pg_name (i := 1) sc_is_name.nd rfl (.inl rfl))) (fun _ _ _ _ _ => pts_nil) (fun _ _ _ _ _ => (pe_cmpR op_in_sign (pv 1) (C8.pe_gc (by rfl) (c_LETTERS T)) (by rfl)))) pa_nil))))), ?_⟩
    refine ⟨_, rfl, _, "str", "str", rfl, .base (.str _), by decide, by decide, _, rfl, ?_⟩
    refine iteF ⟨_, rfl, _, rfl, Nat.le_trans n2 (by decide), _, _, rfl, rfl, _, rfl, ?_⟩
    have e1 : decide ((1 : Int) ≤ (z.length : Int)) = true := decide_eq_true (by omega)
    rw [e1]
    refine iteT ⟨_, _, rfl, rfl, _, rfl, ?_⟩
    have e2 : decide ((z.length : Int) ≤ 8) = true := decide_eq_true (by omega)
    rw [e2]
    refine iteF ?_
    refine ⟨_, rfl, _, rfl, fun D nD => ?_⟩
    refine lc_it walk_str (fun i H1 => Same H H1 ∧ H1 D = some (.lst ((List.replicate i true).map V.bl))) ⟨same_upd nD, upd_same⟩ (fun _ _ _ _ => trivial) ?_ ?_
    · rintro i x H1 H2 hi ⟨s1, d1⟩ ⟨rfl, c, hc, rfl⟩
      refine ⟨rfl, yes_i (iteT ⟨_, rfl, c, letters, rfl, rfl, ?_⟩)⟩
      have hcm : c ∈ z.cps.toList := by
        obtain ⟨hi', hc'⟩ := Array.getElem?_eq_some_iff.mp hc
        rw [← hc']
        exact Array.mem_toList_iff.mpr (Array.getElem_mem hi')
      refine ⟨_, d1, ?_, ?_, ?_⟩
      · rw [List.length_map, List.length_replicate]
        have : z.cps.size = z.length := rfl
        exact small1000 (by omega)
      · exact fun b o e => by
          rw [upd_ne (ne_of_none e nD)]
          exact s1 b o e
      · rw [upd_same, decide_eq_true (n3 c hcm), List.replicate_succ', List.map_append]
        rfl
    · rintro H1 ⟨s1, d1⟩
      refine ⟨D, List.replicate z.cps.size true, rfl, .inl (.inl d1), ?_⟩
      rw [show (List.replicate z.cps.size true).all id = true by simp]
      exact q H1 s1
end
end Tw

set_option maxHeartbeats 4000000
namespace Tw
open PySem PySem.Spec PyProof.Rows L2
/-! ### attributes stored -/
theorem ne_mb : ¬ (("by" : Str) = "moment_rows") := by decide +kernel
theorem ne_sb : ¬ (("by" : Str) = "span_rows") := by decide +kernel
theorem ne_tb : ¬ (("by" : Str) = "tie_rows") := by decide +kernel
theorem ne_sm : ¬ (("moment_rows" : Str) = "span_rows") := by decide +kernel
theorem ne_tm : ¬ (("moment_rows" : Str) = "tie_rows") := by decide +kernel
theorem ne_ts : ¬ (("span_rows" : Str) = "tie_rows") := by decide +kernel
theorem pf0 {v : V} : putF "by" v ([] : List (Str × V)) = ([("by", v)] : List (Str × V)) := rfl
theorem pf1 {v x : V} : putF "moment_rows" v ([("by", x)] : List (Str × V)) = ([("by", x), ("moment_rows", v)] : List (Str × V)) := by
  simp only [putF, if_neg ne_mb]
theorem pf2 {v x y : V} : putF "span_rows" v ([("by", x), ("moment_rows", y)] : List (Str × V)) = ([("by", x), ("moment_rows", y), ("span_rows", v)] : List (Str × V)) := by
  simp only [putF, if_neg ne_sb, if_neg ne_sm]
theorem pf3 {v x y z : V} : putF "tie_rows" v ([("by", x), ("moment_rows", y), ("span_rows", z)] : List (Str × V)) = ([("by", x), ("moment_rows", y), ("span_rows", z), ("tie_rows", v)] : List (Str × V)) := by
  simp only [putF, if_neg ne_tb, if_neg ne_tm, if_neg ne_ts]
theorem wf_pm {l : Int} {a b c d : Addr} : putF "moment_rows" (.ref d) (wf l a b c) = wf l d b c := by
  unfold wf
  simp only [putF, if_neg ne_mb, if_true]
theorem wf_ps {l : Int} {a b c d : Addr} : putF "span_rows" (.ref d) (wf l a b c) = wf l a d c := by
  unfold wf
  simp only [putF, if_neg ne_sb, if_neg ne_sm, if_true]
theorem wf_pt {l : Int} {a b c d : Addr} : putF "tie_rows" (.ref d) (wf l a b c) = wf l a b d := by
  unfold wf
  simp only [putF, if_neg ne_tb, if_neg ne_tm, if_neg ne_ts, if_true]
theorem up_eq {H : Hp} {p : Addr} {o u : HO} (h : o = u) : (upd H p o) p = some u := by
  rw [upd_same, h]
section
variable {P : Program} {w : World} {K : PySem.W.Frag} {mg : Str → Option Value} {base : Heap}
abbrev CW (K : PySem.W.Frag) : Addr := He.ga K "Web"
/-! ### Web.__init__ -/
def sp_init (K : PySem.W.Frag) : Sp := fun vs H Q _ => ∃ (p dx : Addr) (l : Int), vs = [.ref p, .int l] ∧ H p = some (.ins (CW K) dx []) ∧ 1 ≤ l ∧ l ≤ 1000 ∧
  ∀ (a b c : Addr) (H' : Hp), (∀ x o, H x = some o → x ≠ p → H' x = some o) → H' p = some (.ins (CW K) dx (wf l a b c)) → H' a = some (.tup []) → H' b = some (.tup []) → H' c = some (.tup []) → Q .non H'
theorem fn_init (T : Tp K mg) {fd : FuncData} (F : FunD K "__init__" "Web.__init__" (defArgs s_Web_UinitU) (defBody s_Web_UinitU) (defScope s_Web_UinitU) [(V.int 100 : V)] [] (He.ma K (He.ga K "Web") "__init__") fd) :
    FnOk P w K mg base CX0 3 (He.ma K (He.ga K "Web") "__init__") fd ["self", "by"] (sp_init K) := by
  refine fnok_of F sc_Web_UinitU (fun vs H Q E h => ?_) (fun cdv A outer s H vs Q E hr h => ?_)
  · obtain ⟨p, dx, l, rfl, _⟩ := h
    rfl
  · obtain ⟨p, dx, l, rfl, hp, l1, l2, q⟩ := h
    refine ⟨_, (pss_cons (ps_if (pt_not (pt_val (C8.pe_c (cal_is_whole T) hr (by decide) rfl (pa_cons (pv 1) (pa_cons pe_int (pa_cons (C8.pe_gc (by rfl) (c_MOST_BY T)) pa_nil)))))) (pss_one ps_never) pss_nil)
      (pss_cons (ps_fld (pv 0) (pv 1) rfl)
      (pss_cons (ps_fld (pv 0) (pe_tup pa_nil) rfl)
      (pss_cons (ps_fld (pv 0) (pe_tup pa_nil) rfl)
      (pss_one (ps_fld (pv 0) (pe_tup pa_nil) rfl)))))), ?_⟩
    refine ⟨_, rfl, l, 1, 1000, rfl, _, rfl, ?_⟩
    rw [decide_eq_true (show (1 : Int) ≤ l ∧ l ≤ 1000 from ⟨l1, l2⟩)]
    refine iteF ?_
    -- self.by = by
    refine ⟨_, rfl, _, rfl, p, CW K, dx, [], rfl, hp, cl_Web T, na_by T, (by show 0 < 1000; decide), ?_⟩
    -- the three rows
    refine ⟨Nat.zero_le _, fun a na => ?_⟩
    have npa : p ≠ a := fun e => by
      rw [← e, upd_same] at na
      cases na
    refine ⟨_, rfl, p, CW K, dx, _, rfl, (by rw [upd_ne npa]; exact up_eq rfl), cl_Web T, na_moment_rows T, (by show 1 < 1000; decide), ?_⟩
    refine ⟨Nat.zero_le _, fun b nb => ?_⟩
    have npb : p ≠ b := fun e => by
      rw [← e, upd_same] at nb
      cases nb
    have nab : a ≠ b := fun e => by
      rw [← e, upd_ne npa.symm, upd_same] at nb
      cases nb
    refine ⟨_, rfl, p, CW K, dx, _, rfl, (by rw [upd_ne npb]; exact up_eq rfl), cl_Web T, na_span_rows T, (by rw [pf0, pf1]; show 2 < 1000; decide), ?_⟩
    refine ⟨Nat.zero_le _, fun c nc => ?_⟩
    have npc : p ≠ c := fun e => by
      rw [← e, upd_same] at nc
      cases nc
    have nbc : b ≠ c := fun e => by
      rw [← e, upd_ne npb.symm, upd_same] at nc
      cases nc
    have nac : a ≠ c := fun e => by
      rw [← e, upd_ne npa.symm, upd_ne nab, upd_ne npa.symm, upd_same] at nc
      cases nc
    refine ⟨_, rfl, p, CW K, dx, _, rfl, (by rw [upd_ne npc]; exact up_eq rfl), cl_Web T, na_tie_rows T, (by rw [pf0, pf1, pf2]; show 3 < 1000; decide), ?_⟩
    refine q a b c _ (fun x o e hx => ?_) (up_eq (by rw [pf0, pf1, pf2, pf3]; rfl)) ?_ ?_ ?_
    · have ea : (upd H p (.ins (CW K) dx (putF "by" (.int l) []))) x = some o := by
        rw [upd_ne hx]
        exact e
      have nxa : x ≠ a := ne_of_none ea na
      have eb : (upd (upd (upd H p (.ins (CW K) dx (putF "by" (.int l) []))) a (.tup [])) p (.ins (CW K) dx (putF "moment_rows" (.ref a) (putF "by" (.int l) [])))) x = some o := by
        rw [upd_ne hx, upd_ne nxa]
        exact ea
      have nxb : x ≠ b := ne_of_none eb nb
      have nxc : x ≠ c := ne_of_none (by rw [upd_ne hx, upd_ne nxb]; exact eb) nc
      rw [upd_ne hx, upd_ne nxc, upd_ne hx, upd_ne nxb]
      exact eb
    · rw [upd_ne npa.symm, upd_ne nac, upd_ne npa.symm, upd_ne nab, upd_ne npa.symm, upd_same]
    · rw [upd_ne npb.symm, upd_ne nbc, upd_ne npb.symm, upd_same]
    · rw [upd_ne npc.symm, upd_same]
theorem mak_Web (T : Tp K mg) : Mak P w K mg base 3 "Web" (CW K) (sp_init K) [] := by
  obtain ⟨fd, F⟩ := f_Web_UinitU T
  obtain ⟨ds, hv, hb⟩ := F.binds1 (ps := ["self", "by"]) 2 1 (by simp) rfl fun T kV doc pm an cdv ct us its h1 h2 => match us, its, h1, h2 with
    | [_, _], [_], _, _ => ⟨_, rfl, rfl⟩
  exact ⟨_, fd, ["self", "by"], ds, mk_Web T, fn_init T F, g_Web T, hb, hv⟩
theorem mak0_Web (T : Tp K mg) : Mak P w K mg base 3 "Web" (CW K) (sp_init K) [.int 100] := by
  obtain ⟨fd, F⟩ := f_Web_UinitU T
  obtain ⟨ds, hv, hb⟩ := F.binds1 (ps := ["self", "by"]) 1 0 (by simp) rfl fun T kV doc pm an cdv ct us its h1 h2 => match us, its, h1, h2 with
    | [_], [_], _, _ => ⟨_, rfl, rfl⟩
  exact ⟨_, fd, ["self", "by"], ds, mk_Web T, fn_init T F, g_Web T, hb, hv⟩
end
end Tw

set_option maxHeartbeats 4000000
namespace Tw
open PySem PySem.Spec PyProof.Rows L2
theorem Same.upd' {H H1 : Hp} {p : Addr} {o : HO} (s : Same H H1) (h : H1 p = none) : Same H (upd H1 p o) := s.trans (same_upd h)
/-- a new list is written again: what was ahead of it stays -/
theorem same_put {H H1 : Hp} {D : Addr} {o : HO} (s : Same H H1) (nD : H D = none) : Same H (upd H1 D o) := fun b x e => by
  rw [upd_ne (ne_of_none e nD)]
  exact s b x e
section
variable {P : Program} {w : World} {K : PySem.W.Frag} {mg : Str → Option Value} {base : Heap}
/-! ### woven -/
def sp_woven (K : PySem.W.Frag) : Sp := fun vs H Q _ => ∃ (m : Md) (a b c : Addr) (ws bs : List V), vs = [.int m.last, .ref a, .ref b, .ref c] ∧ H a = some (.tup (m.own.map V.str)) ∧ H b = some (.tup ws) ∧ Rows H ws (m.wd.map Wd.row) ∧ H c = some (.tup bs) ∧ Rows H bs (m.bd.map Bd.row) ∧
  (m.own.length ≤ 10 ∧ m.wd.length ≤ 4 ∧ m.bd.length ≤ 40) ∧ (1 ≤ m.last ∧ m.last ≤ 1000) ∧ ∀ (p : Addr) (H' : Hp), Same H H' → H p = none → WebAt (CW K) H' p m → Q (.ref p) H'
theorem cal_woven (T : Tp K mg) : Cal P w K mg base 5 "woven" (sp_woven K) := by
  obtain ⟨fd, F⟩ := f_woven T
  refine cal_of F (g_woven T) (b_woven F) sc_woven (fun vs H Q E h => ?_) (fun cdv A outer s H vs Q E hr h => ?_)
  · obtain ⟨m, a, b, c, ws, bs, rfl, _⟩ := h
    rfl
  · obtain ⟨m, a, b, c, ws, bs, rfl, ha, hb, rb, hc, rc, hl, hla, q⟩ := h
    refine ⟨_, (pss_cons (ps_set (i := 4) sc_woven.nd rfl (.inl rfl) (C8.pe_mk (mak_Web T) hr (by decide) rfl (pa_cons (pv 0) pa_nil)))
      (pss_cons (ps_fld (pv 4) (pe_callTy call_tuple_of (by rfl) (z_tuple T) bb_tuple (pa_cons (pv 1) pa_nil)) rfl)
      (pss_cons (ps_fld (pv 4) (pe_callTy call_tuple_of (by rfl) (z_tuple T) bb_tuple (pa_cons (pv 2) pa_nil)) rfl)
      (pss_cons (ps_fld (pv 4) (pe_callTy call_tuple_of (by rfl) (z_tuple T) bb_tuple (pa_cons (pv 3) pa_nil)) rfl)
      (pss_one (ps_ret (pv 4))))))), ?_⟩
    refine ⟨_, rfl, fun x dx nx ndx ne => ⟨x, dx, m.last, rfl, upd_same, hla.1, hla.2, fun a0 b0 c0 H1 kp hp ha0 hb0 hc0 => ⟨rfl, ?_⟩⟩⟩
    have s1 : Same H H1 := Same.made nx ndx kp
    have nax : a ≠ x := ne_of_none ha nx
    have nbx : b ≠ x := ne_of_none hb nx
    have ncx : c ≠ x := ne_of_none hc nx
    refine ⟨_, rfl, a, _, rfl, .inr ⟨.inl (.inl (s1 _ _ ha)), _, rfl, x, CW K, dx, _, rfl, hp, cl_Web T, na_moment_rows T, (by show 4 < 1000; decide), ?_⟩⟩
    refine ⟨_, rfl, b, _, rfl, .inr ⟨.inl (.inl (by rw [upd_ne nbx]; exact s1 _ _ hb)), _, rfl, x, CW K, dx, _, rfl, up_eq (by rw [wf_pm]), cl_Web T, na_span_rows T, (by show 4 < 1000; decide), ?_⟩⟩
    refine ⟨_, rfl, c, _, rfl, .inr ⟨.inl (.inl (by rw [upd_ne ncx, upd_ne ncx]; exact s1 _ _ hc)), _, rfl, x, CW K, dx, _, rfl, up_eq (by rw [wf_ps]), cl_Web T, na_tie_rows T, (by show 4 < 1000; decide), ?_⟩⟩
    have s2 : Same H (upd (upd (upd H1 x (.ins (CW K) dx (putF "moment_rows" (.ref a) (wf m.last a0 b0 c0)))) x (.ins (CW K) dx (putF "span_rows" (.ref b) (wf m.last a b0 c0)))) x (.ins (CW K) dx (putF "tie_rows" (.ref c) (wf m.last a b c0)))) := fun y o e => by
      have ny : y ≠ x := ne_of_none e nx
      rw [upd_ne ny, upd_ne ny, upd_ne ny]
      exact s1 _ _ e
    refine ⟨_, rfl, q x _ s2 nx ⟨⟨dx, a, b, c, ws, bs, up_eq (by rw [wf_pt]), s2 _ _ ha, s2 _ _ hb, rb.keep (Kt.of s2), s2 _ _ hc, rc.keep (Kt.of s2)⟩, hl, hla⟩⟩
/-! ### moments, spans, ties -/
def sp_moments (K : PySem.W.Frag) : Sp := fun vs H Q _ => ∃ (p : Addr) (m : Md), vs = [.ref p] ∧ WebAt (CW K) H p m ∧ ∀ q, H q = none → Q (.ref q) (upd H q (.lst (m.own.map V.str)))
theorem met_Web_moments (T : Tp K mg) : Met P w K mg base 2 (CW K) "moments" (sp_moments K) := by
  obtain ⟨fd, F⟩ := f_Web_moments T
  refine met_of F (cl_Web T) (me_Web_moments T) (b_Web_moments F) sc_Web_moments (fun vs H Q E h => ?_) (fun cdv A outer s H vs Q E hr h => ?_)
  · obtain ⟨p, m, rfl, _⟩ := h
    rfl
  · obtain ⟨p, m, rfl, W, q⟩ := h
    obtain ⟨dx, a, b, c, ws, bs, h1, h2, h3, h4, h5, h6⟩ := W.ex
    refine ⟨_, (pss_one (ps_ret (pe_callTy call_list_of (by rfl) (z_list T) bb_list (pa_cons (pe_fld (pv 0) rfl) pa_nil)))), ?_⟩
    exact ⟨_, rfl, p, CW K, dx, _, _, rfl, h1, cl_Web T, na_moment_rows T, wf_m, a, _, rfl, .inr (.inl (.inl h2)), q⟩
def sp_spans (K : PySem.W.Frag) : Sp := fun vs H Q _ => ∃ (p : Addr) (m : Md), vs = [.ref p] ∧ WebAt (CW K) H p m ∧ ∀ ws q, Rows H ws (m.wd.map Wd.row) → H q = none → Q (.ref q) (upd H q (.lst ws))
theorem met_Web_spans (T : Tp K mg) : Met P w K mg base 2 (CW K) "spans" (sp_spans K) := by
  obtain ⟨fd, F⟩ := f_Web_spans T
  refine met_of F (cl_Web T) (me_Web_spans T) (b_Web_spans F) sc_Web_spans (fun vs H Q E h => ?_) (fun cdv A outer s H vs Q E hr h => ?_)
  · obtain ⟨p, m, rfl, _⟩ := h
    rfl
  · obtain ⟨p, m, rfl, W, q⟩ := h
    obtain ⟨dx, a, b, c, ws, bs, h1, h2, h3, h4, h5, h6⟩ := W.ex
    refine ⟨_, (pss_one (ps_ret (pe_callTy call_list_of (by rfl) (z_list T) bb_list (pa_cons (pe_fld (pv 0) rfl) pa_nil)))), ?_⟩
    exact ⟨_, rfl, p, CW K, dx, _, _, rfl, h1, cl_Web T, na_span_rows T, wf_s, b, _, rfl, .inr (.inl (.inl h3)), fun l => q ws l h4⟩
def sp_ties (K : PySem.W.Frag) : Sp := fun vs H Q _ => ∃ (p : Addr) (m : Md), vs = [.ref p] ∧ WebAt (CW K) H p m ∧ ∀ bs q, Rows H bs (m.bd.map Bd.row) → H q = none → Q (.ref q) (upd H q (.lst bs))
theorem met_Web_ties (T : Tp K mg) : Met P w K mg base 2 (CW K) "ties" (sp_ties K) := by
  obtain ⟨fd, F⟩ := f_Web_ties T
  refine met_of F (cl_Web T) (me_Web_ties T) (b_Web_ties F) sc_Web_ties (fun vs H Q E h => ?_) (fun cdv A outer s H vs Q E hr h => ?_)
  · obtain ⟨p, m, rfl, _⟩ := h
    rfl
  · obtain ⟨p, m, rfl, W, q⟩ := h
    obtain ⟨dx, a, b, c, ws, bs, h1, h2, h3, h4, h5, h6⟩ := W.ex
    refine ⟨_, (pss_one (ps_ret (pe_callTy call_list_of (by rfl) (z_list T) bb_list (pa_cons (pe_fld (pv 0) rfl) pa_nil)))), ?_⟩
    exact ⟨_, rfl, p, CW K, dx, _, _, rfl, h1, cl_Web T, na_tie_rows T, wf_t, c, _, rfl, .inr (.inl (.inl h5)), fun l => q bs l h6⟩
/-! ### points -/
def sp_points (K : PySem.W.Frag) : Sp := fun vs H Q _ => ∃ (p : Addr) (m : Md), vs = [.ref p] ∧ WebAt (CW K) H p m ∧ ∀ q H', Same H H' → H q = none → H' q = some (.lst (m.pts.map V.str)) → Q (.ref q) H'
theorem met_Web_points (T : Tp K mg) : Met P w K mg base 3 (CW K) "points" (sp_points K) := by
  obtain ⟨fd, F⟩ := f_Web_points T
  refine met_of F (cl_Web T) (me_Web_points T) (b_Web_points F) sc_Web_points (fun vs H Q E h => ?_) (fun cdv A outer s H vs Q E hr h => ?_)
  · obtain ⟨p, m, rfl, _⟩ := h
    rfl
  · obtain ⟨p, m, rfl, W, q⟩ := h
    obtain ⟨dx, a, b, c, ws, bs, h1, h2, h3, h4, h5, h6⟩ := W.ex
    have hl := W.len
    have hw : ws.length = m.wd.length := by
      rw [h4.len, List.length_map]
    refine ⟨_, (pss_cons (ps_setLc (i := 1) (own := [("span", 2)]) (g := gName 2) (tt := tYes) rfl sc_Web_points.nd rfl rfl (sw_true rfl rfl rfl (by decide +kernel)) (pi_tup (pe_fld (pv 0) rfl)) (blkOk_by (N := N_Web_points) (sc := defScope s_Web_points) (by decide +kernel)) (fun _ _ _ _ _ => (pg_name (i := 2) sc_Web_points.nd rfl (.inl rfl))) (fun _ _ _ _ _ => pts_nil) (fun _ _ _ _ _ => (pe_ix (ix_tupK (K := K) rfl) (pv 2) pe_int (fun _ _ => rfl))))
      (pss_one (ps_ret (pe_op op_cat (pe_op op_cat (pe_lst (pa_cons (C8.pe_gc (by rfl) (c_START T)) pa_nil)) (C8.pe_mt0 (met_Web_moments T) hr (by decide) (pv 0))) (pv 1))))), ?_⟩
    refine ⟨_, rfl, p, CW K, dx, _, _, rfl, h1, cl_Web T, na_span_rows T, wf_s, b, rfl, ⟨_, .inl (.inl h3)⟩, fun D nD => ?_⟩
    refine lc_tup (K := K) (a := b) (xs := ws) (fun i H1 => Same H H1 ∧ H1 D = some (.lst (((m.wd.map (·.en)).take i).map V.str))) ⟨same_upd nD, upd_same⟩ (fun i H1 _ ⟨s1, _⟩ => .inl (.inl (s1 _ _ h3))) ?_ ?_
    · rintro i x H1 hx ⟨s1, d1⟩
      obtain ⟨t, r, rfl, hr', ht⟩ := h4.at hx
      rw [List.getElem?_map] at hr'
      cases e : m.wd[i]? with
      | none =>
        rw [e] at hr'
        cases hr'
      | some y =>
        rw [e] at hr'
        cases hr'
        have hi : i < m.wd.length := (List.getElem?_eq_some_iff.mp e).1
        refine ⟨rfl, yes_i (iteT ⟨_, rfl, t, _, 0, _, rfl, rfl, .inl (.inl (s1 _ _ ht)), atI_nat (j := 0) rfl, _, d1, ?_, ?_, ?_⟩)⟩
        · rw [List.length_map, List.length_take]
          exact small1000 (by omega)
        · exact same_put s1 nD
        · rw [upd_same, List.take_add_one, List.getElem?_map, e, List.map_append]
          rfl
    · rintro H1 ⟨s1, d1⟩
      have en : (m.wd.map (·.en)).take ws.length = m.wd.map (·.en) := List.take_of_length_le (by rw [List.length_map]; omega)
      rw [en] at d1
      -- [START] + self.moments() + ends
      refine ⟨by show 1 ≤ sizeLine; decide, fun l nl => ?_⟩
      have s2 : Same H1 (upd H1 l (.lst [.str "start"])) := same_upd nl
      have W2 := (W.same s1).same s2
      obtain ⟨dx2, _, _, _, _, _, g1, _⟩ := W2.ex
      refine ⟨_, rfl, p, _, _, rfl, g1, wf_no (by decide +kernel), p, m, rfl, W2, fun k nk => ?_⟩
      have nlk : l ≠ k := fun z => by
        rw [← z, upd_same] at nk
        cases nk
      have s3 := same_upd (o := .lst (m.own.map V.str)) nk
      refine ⟨l, k, _, _, rfl, rfl, (by rw [upd_ne nlk]; exact upd_same), upd_same, ?_, fun r nr => ?_⟩
      · rw [List.length_map]
        exact Nat.le_of_lt (small1000 (by show 1 + _ ≤ 1000; omega))
      · have s4 := same_upd (o := .lst ([.str "start"] ++ m.own.map V.str)) nr
        have nDr : D ≠ r := ne_of_none (s3 _ _ (s2 _ _ d1)) nr
        refine ⟨_, rfl, r, D, _, _, rfl, rfl, upd_same, (s4 _ _ (s3 _ _ (s2 _ _ d1))), ?_, fun u nu => ?_⟩
        · rw [List.length_append, List.length_map, List.length_map, List.length_map]
          exact Nat.le_of_lt (small1000 (by show 1 + _ + _ ≤ 1000; omega))
        · have s5 := same_upd (o := .lst ([.str "start"] ++ m.own.map V.str ++ (m.wd.map (·.en)).map V.str)) nu
          have sa := ((s1.trans s2).trans s3).trans s4
          refine q u _ (sa.trans s5) (sa.free nu) ?_
          rw [upd_same]
          unfold Md.pts
          rw [List.map_cons, List.map_append]
          rfl
end
end Tw

set_option maxHeartbeats 4000000
namespace Tw
open PySem PySem.Spec PyProof.Rows L2
/-- the two bounds of a tie, good -/
structure BOk (bo to : Option Int) : Prop where
  one : ¬ (bo = none ∧ to = none)
  lo : ∀ x, bo = some x → -1000 ≤ x ∧ x ≤ 1000
  hi : ∀ x, to = some x → -1000 ≤ x ∧ x ≤ 1000
  le : ∀ x y, bo = some x → to = some y → x ≤ y
def tls (bo to : Option Int) : List Int := bo.toList ++ to.toList
theorem BOk.sh {bo to : Option Int} (h : BOk bo to) : (∀ x ∈ tls bo to, -1000 ≤ x ∧ x ≤ 1000) ∧ ((∃ u, tls bo to = [u]) ∨ ∃ u v, tls bo to = [u, v] ∧ u ≤ v) := by
  cases bo with
  | none =>
    cases to with
    | none => exact absurd ⟨rfl, rfl⟩ h.one
    | some y =>
      refine ⟨fun x hx => ?_, .inl ⟨y, rfl⟩⟩
      have e : x = y := by simpa [tls] using hx
      rw [e]
      exact h.hi y rfl
  | some x0 =>
    cases to with
    | none =>
      refine ⟨fun x hx => ?_, .inl ⟨x0, rfl⟩⟩
      have e : x = x0 := by simpa [tls] using hx
      rw [e]
      exact h.lo x0 rfl
    | some y =>
      refine ⟨fun x hx => ?_, .inr ⟨x0, y, rfl, h.le x0 y rfl rfl⟩⟩
      have e : x = x0 ∨ x = y := by simpa [tls] using hx
      rcases e with e | e
      · rw [e]
        exact h.lo x0 rfl
      · rw [e]
        exact h.hi y rfl
theorem oV_non {o : Option Int} : decide (oV o = V.non) = o.isNone := by
  cases o <;> simp [oV]
section
variable {P : Program} {w : World} {K : PySem.W.Frag} {mg : Str → Option Value} {base : Heap}
/-! ### are_bounds -/
def sp_are_bounds : Sp := fun vs H Q _ => ∃ bo to : Option Int, vs = [oV bo, oV to] ∧ BOk bo to ∧ ∀ H', Same H H' → Q (.bl true) H'
theorem cal_are_bounds (T : Tp K mg) : Cal P w K mg base 3 "are_bounds" sp_are_bounds := by
  obtain ⟨fd, F⟩ := f_are_bounds T
  refine cal_of F (g_are_bounds T) (b_are_bounds F) sc_are_bounds (fun vs H Q E h => ?_) (fun cdv A outer s H vs Q E hr h => ?_)
  · obtain ⟨bo, to, rfl, _⟩ := h
    rfl
  · obtain ⟨bo, to, rfl, B, q⟩ := h
    obtain ⟨hin, hsh⟩ := B.sh
    refine ⟨_, (pss_cons (ps_setLc (i := 2) (own := [("bound", 3)]) (g := gName 3) rfl sc_are_bounds.nd rfl rfl (sw_true rfl rfl rfl (by decide +kernel)) (pi_tup (pe_tup (pa_cons (pv 0) (pa_cons (pv 1) pa_nil)))) (blkOk_by (N := N_are_bounds) (sc := defScope s_are_bounds) (by decide +kernel)) (fun _ _ _ _ _ => (pg_name (i := 3) sc_are_bounds.nd rfl (.inl rfl))) (fun _ _ _ _ _ => (pts_one (pt_cmpR op_notN (pv 3) pe_non (nomark _)))) (fun _ _ _ _ _ => (pv 3)))
      (pss_cons (ps_if (pt_not (pt_val (pe_callB (cr_all rfl) (by rfl) (z_all T) bb_all (pa_cons (pe_lc (own := [("bound", 3)]) (g := gName 3) (tt := tYes) rfl sc_are_bounds.nd (pi_list (pv 2)) (blkOk_by (N := N_are_bounds) (sc := defScope s_are_bounds) (by decide +kernel)) (fun _ _ _ _ _ => (pg_name (i := 3) sc_are_bounds.nd rfl (.inl rfl))) (fun _ _ _ _ _ => pts_nil) (fun _ _ _ _ _ => (C8.pe_c (cal_is_whole T) hr (by decide) rfl (pa_cons (pv 3) (pa_cons (pe_un un_neg (C8.pe_gc (by rfl) (c_MOST_BOUND T))) (pa_cons (C8.pe_gc (by rfl) (c_MOST_BOUND T)) pa_nil)))))) pa_nil)))) (pss_one (ps_ret pe_bl)) pss_nil)
      (pss_one (ps_ret (pe_and (pe_cmpR op_gt (pe_callB call_len_seq (by rfl) (z_len T) bb_len (pa_cons (pv 2) pa_nil)) pe_int (nomark _)) (pe_one (pe_cmpR op_le (pe_ix ix_list (pv 2) pe_int (fun _ _ => rfl)) (pe_ix ix_list (pv 2) (pe_un un_neg pe_int) (fun _ _ => rfl)) (nomark _)))))))), ?_⟩
    refine ⟨_, rfl, _, rfl, (by show 2 ≤ sizeLine; decide), fun t nt => ?_⟩
    have s1 : Same H (upd H t (.tup [oV bo, oV to])) := same_upd nt
    refine ⟨t, rfl, ⟨_, .inl (.inl upd_same)⟩, fun D nD => ?_⟩
    have nDH : H D = none := s1.free nD
    refine lc_tup (K := K) (a := t) (xs := [oV bo, oV to]) (fun i H1 => Same (upd H t (.tup [oV bo, oV to])) H1 ∧ H1 D = some (.lst ((((([bo, to] : List (Option Int)).take i).filterMap id)).map V.int)))
      ⟨same_upd nD, upd_same⟩ (fun i H1 _ ⟨s2, _⟩ => .inl (.inl (s2 _ _ upd_same))) ?_ ?_
    · rintro i x H1 hx ⟨s2, d1⟩
      obtain ⟨o, eo, ex⟩ : ∃ o : Option Int, ([bo, to] : List (Option Int))[i]? = some o ∧ x = oV o := by
        match i, hx with
        | 0, hx => exact ⟨bo, rfl, (Option.some.inj hx).symm⟩
        | 1, hx => exact ⟨to, rfl, (Option.some.inj hx).symm⟩
      subst ex
      have hi : i < 2 := (List.getElem?_eq_some_iff.mp eo).1
      have e2 : (([bo, to] : List (Option Int)).take (i + 1)).filterMap id = (([bo, to] : List (Option Int)).take i).filterMap id ++ o.toList := by
        rw [List.take_add_one, eo, List.filterMap_append]
        cases o <;> rfl
      refine ⟨rfl, _, rfl, rfl, _, rfl, ?_⟩
      rw [oV_non]
      cases o with
      | none =>
        refine iteF ⟨s2, ?_⟩
        rw [e2, d1]
        show _ = some (HO.lst (List.map V.int (_ ++ [])))
        rw [List.append_nil]
      | some z =>
        refine iteT ⟨_, rfl, _, d1, ?_, ?_, ?_⟩
        · rw [List.length_map]
          refine Nat.lt_of_le_of_lt (List.length_filterMap_le _ _) ?_
          rw [List.length_take]
          exact small1000 (by show min i 2 ≤ 1000; omega)
        · exact same_put s2 nD
        · rw [upd_same, e2, List.map_append]
          rfl
    · rintro H1 ⟨s2, d1⟩
      have d2 : H1 D = some (.lst ((tls bo to).map V.int)) := by
        rw [d1]
        cases bo <;> cases to <;> rfl
      have s3 : Same H H1 := s1.trans s2
      have hlen : (tls bo to).length ≤ 2 := by
        rcases hsh with ⟨u, e⟩ | ⟨u, v, e, _⟩ <;> rw [e] <;> simp
      -- all([is_whole(..) for bound in told])
      refine ⟨_, rfl, D, rfl, ⟨_, .inl (.inl d2)⟩, fun L nL => ?_⟩
      have nLH : H L = none := s3.free nL
      have nDL : D ≠ L := ne_of_none d2 nL
      refine lc_list (K := K) (a := D) (xs := (tls bo to).map V.int) (fun i H2 => Same H H2 ∧ H2 D = some (.lst ((tls bo to).map V.int)) ∧ H2 L = some (.lst ((List.replicate i true).map V.bl)))
        ⟨s3.trans (same_upd nL), by rw [upd_ne nDL]; exact d2, upd_same⟩ (fun i H2 _ ⟨_, d, _⟩ => .inl (.inl d)) ?_ ?_
      · rintro i x H2 hx ⟨s4, d4, l4⟩
        rw [List.getElem?_map] at hx
        cases e : (tls bo to)[i]? with
        | none =>
          rw [e] at hx
          cases hx
        | some z =>
          rw [e] at hx
          cases hx
          have hi : i < (tls bo to).length := (List.getElem?_eq_some_iff.mp e).1
          have hz := hin z (List.mem_of_getElem? e)
          refine ⟨rfl, yes_i (iteT ⟨_, rfl, 1000, rfl, z, -1000, 1000, rfl, _, l4, ?_, ?_, ?_, ?_⟩)⟩
          · rw [List.length_map, List.length_replicate]
            exact small1000 (by omega)
          · exact same_put s4 nLH
          · rw [upd_ne nDL]
            exact d4
          · rw [upd_same, decide_eq_true hz, List.replicate_succ', List.map_append]
            rfl
      · rintro H2 ⟨s4, d4, l4⟩
        refine ⟨L, _, rfl, .inl (.inl l4), _, rfl, ?_⟩
        rw [show (List.replicate ((tls bo to).map V.int).length true).all id = true by simp]
        refine iteF ?_
        -- len(told) > 0 and told[0] <= told[-1]
        refine ⟨_, rfl, D, _, rfl, .inl (.inl (.inl d4)), _, 0, rfl, rfl, _, rfl, ?_⟩
        have fin : ∀ (u v : Int) (pre : List Int), (tls bo to)[0]? = some u → tls bo to = pre ++ [v] → u ≤ v → (if decide ((0 : Int) < ((tls bo to).map V.int).length) = true then
            tOp (rI0 fun i j => .bl (decide (i ≤ j))) (tOp (rIxL K) (tVar 2) (tC (.int 0))) (tOp (rIxL K) (tVar 2) (tUn (rU fun i => .int (-i)) (tC (.int 1)))) [some (oV bo), some (oV to), some (.ref D), none] H2 Q else Q (.bl false) H2) := by
          intro u v pre hu hv huv
          have h0 : 0 < (tls bo to).length := by
            rw [hv, List.length_append]
            exact Nat.succ_pos _
          rw [decide_eq_true (by rw [List.length_map]; omega)]
          have hz : (tls bo to).map V.int = pre.map V.int ++ [.int v] := by
            rw [hv, List.map_append]
            rfl
          refine iteT ⟨_, rfl, D, _, 0, .int u, rfl, rfl, .inl (.inl d4), atI_nat (j := 0) (by rw [List.getElem?_map, hu]; rfl), _, rfl, _, rfl, D, _, _, .int v, rfl, rfl, .inl (.inl d4), ?_, u, v, rfl, rfl, ?_⟩
          · rw [hz]
            exact atI_last _ _
          · show Q (.bl (decide (u ≤ v))) H2
            rw [decide_eq_true huv]
            exact q H2 s4
        rcases hsh with ⟨u, e⟩ | ⟨u, v, e, huv⟩
        · exact fin u u [] (by rw [e]; rfl) (by rw [e]; rfl) (Int.le_refl _)
        · exact fin u v [u] (by rw [e]; rfl) (by rw [e]; rfl) huv
/-! ### is_begin, need_free_name, need_point -/
def sp_is_begin (K : PySem.W.Frag) : Sp := fun vs H Q _ => ∃ (p : Addr) (m : Md) (z : Str), vs = [.ref p, .str z] ∧ WebAt (CW K) H p m ∧ (z = "start" ∨ z ∈ m.own) ∧ ∀ H', Same H H' → Q (.bl true) H'
theorem cal_is_begin (T : Tp K mg) : Cal P w K mg base 3 "is_begin" (sp_is_begin K) := by
  obtain ⟨fd, F⟩ := f_is_begin T
  refine cal_of F (g_is_begin T) (b_is_begin F) sc_is_begin (fun vs H Q E h => ?_) (fun cdv A outer s H vs Q E hr h => ?_)
  · obtain ⟨p, m, z, rfl, _⟩ := h
    rfl
  · obtain ⟨p, m, z, rfl, W, hz, q⟩ := h
    obtain ⟨dx, a, b, c, ws, bs, h1, _⟩ := W.ex
    refine ⟨_, (pss_one (ps_ret (C8.pe_c (cal_is_one_of T) hr (by decide) rfl (pa_cons (pv 1) (pa_cons (pe_op op_cat (pe_lst (pa_cons (C8.pe_gc (by rfl) (c_START T)) pa_nil)) (C8.pe_mt0 (met_Web_moments T) hr (by decide) (pv 0))) pa_nil))))), ?_⟩
    refine ⟨_, rfl, by show 1 ≤ sizeLine; decide, fun l nl => ?_⟩
    have s1 : Same H (upd H l (.lst [.str "start"])) := same_upd nl
    refine ⟨_, rfl, p, dx, _, rfl, s1 _ _ h1, wf_no (by decide +kernel), p, m, rfl, W.same s1, fun k nk => ?_⟩
    have nlk : l ≠ k := fun e => by
      rw [← e, upd_same] at nk
      cases nk
    have s2 := same_upd (o := .lst (m.own.map V.str)) nk
    refine ⟨l, k, _, _, rfl, rfl, (by rw [upd_ne nlk]; exact upd_same), upd_same, ?_, fun r nr => ?_⟩
    · rw [List.length_map]
      have hl := W.len
      exact Nat.le_of_lt (small1000 (by show 1 + _ ≤ 1000; omega))
    · have s3 := same_upd (o := .lst ([.str "start"] ++ m.own.map V.str)) nr
      refine ⟨z, r, "start" :: m.own, rfl, upd_same, ?_⟩
      rw [decide_eq_true (List.mem_cons.mpr hz)]
      exact q _ ((s1.trans s2).trans s3)
def sp_need_free_name (K : PySem.W.Frag) : Sp := fun vs H Q _ => ∃ (p : Addr) (m : Md) (z : Str), vs = [.ref p, .str z] ∧ WebAt (CW K) H p m ∧ Nm z ∧ ¬ z ∈ m.pts ∧ ∀ H', Same H H' → Q .non H'
theorem cal_need_free_name (T : Tp K mg) : Cal P w K mg base 4 "need_free_name" (sp_need_free_name K) := by
  obtain ⟨fd, F⟩ := f_need_free_name T
  refine cal_of F (g_need_free_name T) (b_need_free_name F) sc_need_free_name (fun vs H Q E h => ?_) (fun cdv A outer s H vs Q E hr h => ?_)
  · obtain ⟨p, m, z, rfl, _⟩ := h
    rfl
  · obtain ⟨p, m, z, rfl, W, hn, hz, q⟩ := h
    refine ⟨_, (pss_cons (ps_if (pt_not (pt_val (C8.pe_c (cal_is_name T) hr (by decide) rfl (pa_cons (pv 1) pa_nil)))) (pss_one ps_never) pss_nil)
      (pss_one (ps_if (pt_cmpR op_in_seq (pv 1) (C8.pe_mt0 (met_Web_points T) hr (by decide) (pv 0)) (by rfl)) (pss_one ps_never) pss_nil))), ?_⟩
    refine ⟨_, rfl, z, rfl, hn, fun H1 s1 => ⟨_, rfl, iteF ?_⟩⟩
    have W1 := W.same s1
    obtain ⟨dx, a, b, c, ws, bs, h1, _⟩ := W1.ex
    refine ⟨_, rfl, _, rfl, p, dx, _, rfl, h1, wf_no (by decide +kernel), p, m, rfl, W1, fun k H2 s2 nk ek => ?_⟩
    refine ⟨k, _, rfl, .inl (.inl (.inl ek)), rfl, flat_strs _, _, rfl, ?_⟩
    show if inV (.str z) (m.pts.map V.str) = true then _ else _
    rw [in_strs, decide_eq_false hz]
    exact iteF (q H2 (s1.trans s2))
def sp_need_point (K : PySem.W.Frag) : Sp := fun vs H Q _ => ∃ (p : Addr) (m : Md) (z : Str), vs = [.ref p, .str z] ∧ WebAt (CW K) H p m ∧ z ∈ m.pts ∧ ∀ H', Same H H' → Q .non H'
theorem cal_need_point (T : Tp K mg) : Cal P w K mg base 4 "need_point" (sp_need_point K) := by
  obtain ⟨fd, F⟩ := f_need_point T
  refine cal_of F (g_need_point T) (b_need_point F) sc_need_point (fun vs H Q E h => ?_) (fun cdv A outer s H vs Q E hr h => ?_)
  · obtain ⟨p, m, z, rfl, _⟩ := h
    rfl
  · obtain ⟨p, m, z, rfl, W, hz, q⟩ := h
    obtain ⟨dx, a, b, c, ws, bs, h1, _⟩ := W.ex
    refine ⟨_, (pss_one (ps_if (pt_not (pt_val (C8.pe_c (cal_is_one_of T) hr (by decide) rfl (pa_cons (pv 1) (pa_cons (C8.pe_mt0 (met_Web_points T) hr (by decide) (pv 0)) pa_nil))))) (pss_one ps_never) pss_nil)), ?_⟩
    refine ⟨_, rfl, _, rfl, p, dx, _, rfl, h1, wf_no (by decide +kernel), p, m, rfl, W, fun k H2 s2 nk ek => ?_⟩
    refine ⟨z, k, _, rfl, ek, _, rfl, ?_⟩
    rw [decide_eq_true hz]
    exact iteF (q H2 s2)
/-! ### __len__ -/
def sp_len (K : PySem.W.Frag) : Sp := fun vs H Q _ => ∃ (p : Addr) (m : Md), vs = [.ref p] ∧ WebAt (CW K) H p m ∧ ∀ H', Same H H' → Q (.int (m.pts.length : Nat)) H'
theorem met_Web_UlenU (T : Tp K mg) : Met P w K mg base 4 (CW K) "__len__" (sp_len K) := by
  obtain ⟨fd, F⟩ := f_Web_UlenU T
  refine met_of F (cl_Web T) (me_Web_UlenU T) (b_Web_UlenU F) sc_Web_UlenU (fun vs H Q E h => ?_) (fun cdv A outer s H vs Q E hr h => ?_)
  · obtain ⟨p, m, rfl, _⟩ := h
    rfl
  · obtain ⟨p, m, rfl, W, q⟩ := h
    obtain ⟨dx, a, b, c, ws, bs, h1, _⟩ := W.ex
    refine ⟨_, (pss_one (ps_ret (pe_callB call_len_seq (by rfl) (z_len T) bb_len (pa_cons (C8.pe_mt0 (met_Web_points T) hr (by decide) (pv 0)) pa_nil)))), ?_⟩
    refine ⟨_, rfl, p, dx, _, rfl, h1, wf_no (by decide +kernel), p, m, rfl, W, fun k H2 s2 nk ek => ⟨k, _, rfl, .inl (.inl (.inl ek)), ?_⟩⟩
    rw [List.length_map]
    exact q H2 s2
theorem pts_len {C : Addr} {H : Hp} {p : Addr} {m : Md} (W : WebAt C H p m) : m.pts.length ≤ 15 := by
  have h := W.len
  unfold Md.pts
  rw [List.length_cons, List.length_append, List.length_map]
  omega
/-! ### __repr__ -/
def num (i : Int) : Str := (toString i : String)
theorem num_len : ∀ n : Fin 1001, (num ((n : Nat) : Int)).length ≤ 4 := by decide +kernel
theorem num_le {i : Int} (h0 : 0 ≤ i) (h1 : i ≤ 1000) : (num i).length ≤ 4 := by
  have h := num_len ⟨i.toNat, by omega⟩
  rw [show (((⟨i.toNat, by omega⟩ : Fin 1001) : Nat) : Int) = i from Int.toNat_of_nonneg h0] at h
  exact h
theorem num_log {i : Int} (h0 : 0 ≤ i) (h1 : i ≤ 1000) : i.natAbs.log2 < 1920 := by
  have h : i.natAbs < 2 ^ 1920 := Nat.lt_of_lt_of_le (show i.natAbs < 1024 by omega) (by decide +kernel)
  by_cases hz : i.natAbs = 0
  · rw [hz]
    decide
  · exact (Nat.log2_lt hz).mpr h
def webText (m : Md) : Str := ((((((Str.empty ++ ("Web(" : Str)) ++ num (m.pts.length : Nat)) ++ (" points, " : Str)) ++ num (m.bd.length : Nat)) ++ (" ties, by " : Str)) ++ num m.last) ++ (")" : Str)
theorem short {z : Str} {n : Nat} (h : z.length ≤ n) (hn : n ≤ 1000) : z.length ≤ sizeLine := Nat.le_of_lt (small1000 (Nat.le_trans h hn))
theorem app_le {a b : Str} {m n : Nat} (ha : a.length ≤ m) (hb : b.length ≤ n) : (a ++ b).length ≤ m + n := by
  rw [Str.length_append]
  omega
def sp_repr (K : PySem.W.Frag) : Sp := fun vs H Q _ => ∃ (p : Addr) (m : Md), vs = [.ref p] ∧ WebAt (CW K) H p m ∧ ∀ H', Same H H' → Q (.str (webText m)) H'
theorem met_Web_UreprU (T : Tp K mg) : Met P w K mg base 6 (CW K) "__repr__" (sp_repr K) := by
  obtain ⟨fd, F⟩ := f_Web_UreprU T
  refine met_of F (cl_Web T) (me_Web_UreprU T) (b_Web_UreprU F) sc_Web_UreprU (fun vs H Q E h => ?_) (fun cdv A outer s H vs Q E hr h => ?_)
  · obtain ⟨p, m, rfl, _⟩ := h
    rfl
  · obtain ⟨p, m, rfl, W, q⟩ := h
    obtain ⟨dx, a, b, c, ws, bs, h1, _⟩ := W.ex
    have hp := pts_len W
    have hl := W.len
    have hla := W.last
    refine ⟨_, (pss_one (ps_ret (pe_joined (.cons pe_str (.cons (pe_fmt (pe_callB (call_lenO (met_Web_UlenU T) hr (by decide)) (by rfl) (z_len T) bb_len (pa_cons (pv 0) pa_nil))) (.cons pe_str (.cons (pe_fmt (pe_callB call_len_seq (by rfl) (z_len T) bb_len (pa_cons (pe_fld (pv 0) rfl) pa_nil))) (.cons pe_str (.cons (pe_fmt (pe_fld (pv 0) rfl)) (.cons pe_str .nil)))))))))), ?_⟩
    have l0 : (Str.empty ++ ("Web(" : Str)).length ≤ 4 := by decide +kernel
    have l1 := app_le l0 (num_le (i := (m.pts.length : Nat)) (by omega) (by omega))
    have l2 := app_le l1 (show (" points, " : Str).length ≤ 9 by decide +kernel)
    have l3 := app_le l2 (num_le (i := (m.bd.length : Nat)) (by omega) (by omega))
    have l4 := app_le l3 (show (" ties, by " : Str).length ≤ 10 by decide +kernel)
    have l5 := app_le l4 (num_le (i := m.last) (by omega) (by omega))
    have l6 := app_le l5 (show (")" : Str).length ≤ 1 by decide +kernel)
    refine ⟨("Web(" : Str), rfl, short l0 (by decide), _, rfl, p, dx, _, rfl, h1, p, m, rfl, W, fun H2 s2 => ⟨_, rfl, by omega, by omega, .inr ⟨_, rfl, num_log (by omega) (by omega), _, rfl, short l1 (by decide), ?_⟩⟩⟩
    have W2 := W.same s2
    obtain ⟨dx2, a2, b2, c2, ws2, bs2, g1, g2, g3, g4, g5, g6⟩ := W2.ex
    have hb2 : bs2.length = m.bd.length := by rw [g6.len, List.length_map]
    refine ⟨_, rfl, short l2 (by decide), _, rfl, p, CW K, dx2, _, _, rfl, g1, cl_Web T, na_tie_rows T, wf_t, c2, _, rfl, .inr (.inl (.inl g5)), .inr ⟨_, rfl, num_log (by omega) (by omega), _, rfl, ?_, ?_⟩⟩
    · rw [hb2]
      exact short l3 (by decide)
    · rw [hb2]
      refine ⟨_, rfl, short l4 (by decide), _, rfl, p, CW K, dx2, _, _, rfl, g1, cl_Web T, na_by T, wf_by, .inr ⟨_, rfl, num_log (by omega) (by omega), _, rfl, short l5 (by decide), _, rfl, short l6 (by decide), ?_⟩⟩
      exact q H2 s2
end
end Tw

set_option maxHeartbeats 4000000
namespace Tw
open PySem PySem.Spec PyProof.Rows L2
theorem wh_int {lo hi : Int} {v : V} (h : whB lo hi v = true) : ∃ i : Int, v = .int i ∧ lo ≤ i ∧ i ≤ hi := by
  cases v with
  | int j =>
    have hj := of_decide_eq_true (show decide (lo ≤ j ∧ j ≤ hi) = true from h)
    exact ⟨j, rfl, hj.1, hj.2⟩
  | non => cases h
  | bl b => cases h
  | str z => cases h
  | byt b => cases h
  | flt b => cases h
  | ref b => cases h
  | ty b => cases h
/-- the two lengths are good -/
def lenB (a b : V) : Bool := whB 1 1000 a && match a with
  | .int i => whB i 1000 b
  | _ => false
def lateB (h : V) : Bool := decide (h = .non) || whB 0 1000 h
theorem len_ok {a b : V} (h : lenB a b = true) : ∃ i j : Int, a = .int i ∧ b = .int j ∧ 1 ≤ i ∧ i ≤ j ∧ j ≤ 1000 := by
  obtain ⟨h1, h2⟩ := Bool.and_eq_true_iff.mp h
  obtain ⟨i, rfl, i1, _⟩ := wh_int h1
  obtain ⟨j, rfl, j1, j2⟩ := wh_int (show whB i 1000 b = true from h2)
  exact ⟨i, j, rfl, rfl, i1, j1, j2⟩
theorem late_ok {h : V} (e : lateB h = true) : ∃ o : Option Int, h = oV o ∧ ∀ i, o = some i → 0 ≤ i ∧ i ≤ 1000 := by
  by_cases hn : h = .non
  · exact ⟨none, hn, fun i z => by cases z⟩
  · unfold lateB at e
    rw [decide_eq_false hn, Bool.false_or] at e
    obtain ⟨i, rfl, h1, h2⟩ := wh_int e
    exact ⟨some i, rfl, fun j z => by cases z; exact ⟨h1, h2⟩⟩
section
variable {P : Program} {w : World} {K : PySem.W.Frag} {mg : Str → Option Value} {base : Heap}
/-! ### are_lengths, is_lateness -/
def sp_are_lengths : Sp := fun vs H Q _ => ∃ a b : V, vs = [a, b] ∧ (plK a).isSome = true ∧ (plK b).isSome = true ∧ Q (.bl (lenB a b)) H
theorem cal_are_lengths (T : Tp K mg) : Cal P w K mg base 3 "are_lengths" sp_are_lengths := by
  obtain ⟨fd, F⟩ := f_are_lengths T
  refine cal_of F (g_are_lengths T) (b_are_lengths F) sc_are_lengths (fun vs H Q E h => ?_) (fun cdv A outer s H vs Q E hr h => ?_)
  · obtain ⟨a, b, rfl, _⟩ := h
    rfl
  · obtain ⟨a, b, rfl, pa, pb, q⟩ := h
    refine ⟨_, (pss_one (ps_ret (pe_and (C8.pe_c (cal_iswh T) hr (by decide) rfl (pa_cons (pv 0) (pa_cons pe_int (pa_cons (C8.pe_gc (by rfl) (c_MOST_LENGTH T)) pa_nil)))) (pe_one (C8.pe_c (cal_iswh T) hr (by decide) rfl (pa_cons (pv 1) (pa_cons (pv 0) (pa_cons (C8.pe_gc (by rfl) (c_MOST_LENGTH T)) pa_nil)))))))), ?_⟩
    refine ⟨_, rfl, a, 1, 1000, rfl, pa, _, rfl, ?_⟩
    cases ha : whB 1 1000 a with
    | false =>
      refine iteF ?_
      have e : lenB a b = false := by
        unfold lenB
        rw [ha, Bool.false_and]
      rw [e] at q
      exact q
    | true =>
      obtain ⟨i, rfl, i1, i2⟩ := wh_int ha
      refine iteT ⟨_, rfl, _, rfl, b, i, 1000, rfl, pb, ?_⟩
      have e : lenB (.int i) b = whB i 1000 b := by
        show (whB 1 1000 (.int i) && whB i 1000 b) = _
        rw [ha, Bool.true_and]
      rw [e] at q
      exact q
def sp_is_lateness : Sp := fun vs H Q _ => ∃ h : V, vs = [h] ∧ (plK h).isSome = true ∧ Q (.bl (lateB h)) H
theorem cal_is_lateness (T : Tp K mg) : Cal P w K mg base 3 "is_lateness" sp_is_lateness := by
  obtain ⟨fd, F⟩ := f_is_lateness T
  refine cal_of F (g_is_lateness T) (b_is_lateness F) sc_is_lateness (fun vs H Q E h => ?_) (fun cdv A outer s H vs Q E hr h => ?_)
  · obtain ⟨h, rfl, _⟩ := h
    rfl
  · obtain ⟨h, rfl, ph, q⟩ := h
    refine ⟨_, (pss_one (ps_ret (pe_or (pe_cmpR op_isN (pv 0) pe_non (nomark _)) (pe_one (C8.pe_c (cal_iswh T) hr (by decide) rfl (pa_cons (pv 0) (pa_cons pe_int (pa_cons (C8.pe_gc (by rfl) (c_MOST_LATE T)) pa_nil)))))))), ?_⟩
    refine ⟨_, rfl, rfl, _, rfl, ?_⟩
    unfold lateB at q
    by_cases hn : h = .non
    · rw [decide_eq_true hn] at q ⊢
      exact iteT q
    · rw [decide_eq_false hn, Bool.false_or] at q
      rw [decide_eq_false hn]
      exact iteF ⟨_, rfl, h, 0, 1000, rfl, ph, q⟩
end
section
variable {P : Program} {w : World} {K : PySem.W.Frag} {mg : Str → Option Value} {base : Heap}
/-! ### with_moment -/
def Md.addM (m : Md) (z : Str) : Md := { m with own := m.own ++ [z] }
def Md.addS (m : Md) (x : Wd) : Md := { m with wd := m.wd ++ [x] }
def Md.addT (m : Md) (x : Bd) : Md := { m with bd := m.bd ++ [x] }
def sp_with_moment (K : PySem.W.Frag) : Sp := fun vs H Q _ => ∃ (p : Addr) (m : Md) (z : Str), vs = [.ref p, .str z] ∧ WebAt (CW K) H p m ∧ Nm z ∧ ¬ z ∈ m.pts ∧ m.own.length < 10 ∧ ∀ (q : Addr) (H' : Hp), Same H H' → H q = none → WebAt (CW K) H' q (m.addM z) → Q (.ref q) H'
theorem met_Web_with_moment (T : Tp K mg) : Met P w K mg base 6 (CW K) "with_moment" (sp_with_moment K) := by
  obtain ⟨fd, F⟩ := f_Web_with_moment T
  refine met_of F (cl_Web T) (me_Web_with_moment T) (b_Web_with_moment F) sc_Web_with_moment (fun vs H Q E h => ?_) (fun cdv A outer s H vs Q E hr h => ?_)
  · obtain ⟨p, m, z, rfl, _⟩ := h
    rfl
  · obtain ⟨p, m, z, rfl, W, hn, hz, hl, q⟩ := h
    refine ⟨_, (pss_cons (ps_expr (C8.pe_c (cal_need_free_name T) hr (by decide) rfl (pa_cons (pv 0) (pa_cons (pv 1) pa_nil))))
      (pss_cons (ps_if (pt_cmpR op_ge (pe_callB call_len_seq (by rfl) (z_len T) bb_len (pa_cons (pe_fld (pv 0) rfl) pa_nil)) (C8.pe_gc (by rfl) (c_MOST_MOMENTS T)) (nomark _)) (pss_one ps_never) pss_nil)
      (pss_one (ps_ret (C8.pe_c (cal_woven T) hr (by decide) rfl (pa_cons (pe_fld (pv 0) rfl) (pa_cons (pe_tup (StX.pa_star (pe_fld (pv 0) rfl) (pa_cons (pv 1) pa_nil))) (pa_cons (pe_fld (pv 0) rfl) (pa_cons (pe_fld (pv 0) rfl) pa_nil))))))))), ?_⟩
    refine ⟨_, rfl, _, rfl, p, m, z, rfl, W, hn, hz, fun H1 s1 => ?_⟩
    have W1 := W.same s1
    obtain ⟨dx, a, b, c, ws, bs, h1, h2, h3, h4, h5, h6⟩ := W1.ex
    have hlen := W.len
    refine ⟨_, rfl, p, CW K, dx, _, _, rfl, h1, cl_Web T, na_moment_rows T, wf_m, a, _, rfl, .inr (.inl (.inl h2)), _, _, rfl, rfl, _, rfl, ?_⟩
    rw [decide_eq_false (by rw [List.length_map]; omega)]
    refine iteF ?_
    refine ⟨_, rfl, p, CW K, dx, _, _, rfl, h1, cl_Web T, na_by T, wf_by, _, rfl, p, CW K, dx, _, _, rfl, h1, cl_Web T, na_moment_rows T, wf_m, a, _, rfl, .inl (.inl (.inl h2)), _, rfl, ?_, fun t nt => ?_⟩
    · rw [List.length_append, List.length_map]
      exact Nat.le_of_lt (small1000 (by show _ + 1 ≤ 1000; omega))
    · have s2 := same_upd (o := .tup (m.own.map V.str ++ [.str z])) nt
      refine ⟨_, rfl, p, CW K, dx, _, _, rfl, s2 _ _ h1, cl_Web T, na_span_rows T, wf_s, _, rfl, p, CW K, dx, _, _, rfl, s2 _ _ h1, cl_Web T, na_tie_rows T, wf_t, ?_⟩
      refine ⟨m.addM z, t, b, c, ws, bs, rfl, ?_, s2 _ _ h3, h4.keep (Kt.of s2), s2 _ _ h5, h6.keep (Kt.of s2), ⟨?_, hlen.2.1, hlen.2.2⟩, W.last, fun x H2 s3 nx W3 => q x H2 ((s1.trans s2).trans s3) ((s1.trans s2).free nx) W3⟩
      · rw [upd_same]
        show _ = some (HO.tup ((m.own ++ [z]).map V.str))
        rw [List.map_append]
        rfl
      · show (m.own ++ [z]).length ≤ 10
        rw [List.length_append]
        show _ + 1 ≤ 10
        omega
/-! ### with_span -/
structure SpOk (m : Md) (x : Wd) : Prop where
  nm : Nm x.en
  fresh : ¬ x.en ∈ m.pts
  bg : x.bg = "start" ∨ x.bg ∈ m.own
  lo : 1 ≤ x.lo
  hi : x.lo ≤ x.hi
  top : x.hi ≤ 1000
  la : ∀ i, x.la = some i → 0 ≤ i ∧ i ≤ 1000
  few : m.wd.length < 4
def sp_with_span (K : PySem.W.Frag) : Sp := fun vs H Q _ => ∃ (p : Addr) (m : Md) (x : Wd), vs = [.ref p, .str x.en, .str x.bg, .int x.lo, .int x.hi, oV x.la] ∧ WebAt (CW K) H p m ∧ SpOk m x ∧ ∀ (q : Addr) (H' : Hp), Same H H' → H q = none → WebAt (CW K) H' q (m.addS x) → Q (.ref q) H'
theorem met_Web_with_span (T : Tp K mg) : MetN P w K mg base 6 (CW K) "with_span" (sp_with_span K) 5 ["late"] := by
  obtain ⟨fd, F⟩ := f_Web_with_span T
  refine ⟨_, fd, ["self", "end", "begin", "low", "high", "late"], _, cl_Web T, me_Web_with_span T, fnok_of (k := 5) F sc_Web_with_span (fun vs H Q E h => ?_) (fun cdv A outer s H vs Q E hr h => ?_), kbn_of F fun kV doc pm an cdv ct us ws h1 h2 => match us, ws, h1, h2 with
    | [_, _, _, _, _], [_], _, _ => rfl⟩
  · obtain ⟨p, m, x, rfl, _⟩ := h
    rfl
  · obtain ⟨p, m, x, rfl, W, S, q⟩ := h
    refine ⟨_, (pss_cons (ps_expr (C8.pe_c (cal_need_free_name T) hr (by decide) rfl (pa_cons (pv 0) (pa_cons (pv 1) pa_nil))))
      (pss_cons (ps_if (pt_not (pt_val (C8.pe_c (cal_is_begin T) hr (by decide) rfl (pa_cons (pv 0) (pa_cons (pv 2) pa_nil))))) (pss_one ps_never) pss_nil)
      (pss_cons (ps_if (pt_not (pt_val (C8.pe_c (cal_are_lengths T) hr (by decide) rfl (pa_cons (pv 3) (pa_cons (pv 4) pa_nil))))) (pss_one ps_never) pss_nil)
      (pss_cons (ps_if (pt_not (pt_val (C8.pe_c (cal_is_lateness T) hr (by decide) rfl (pa_cons (pv 5) pa_nil)))) (pss_one ps_never) pss_nil)
      (pss_cons (ps_if (pt_cmpR op_ge (pe_callB call_len_seq (by rfl) (z_len T) bb_len (pa_cons (pe_fld (pv 0) rfl) pa_nil)) (C8.pe_gc (by rfl) (c_MOST_SPANS T)) (nomark _)) (pss_one ps_never) pss_nil)
      (pss_cons (ps_set (i := 6) sc_Web_with_span.nd rfl (.inl rfl) (pe_tup (pa_cons (pv 1) (pa_cons (pv 2) (pa_cons (pv 3) (pa_cons (pv 4) (pa_cons (pv 5) pa_nil)))))))
      (pss_one (ps_ret (C8.pe_c (cal_woven T) hr (by decide) rfl (pa_cons (pe_fld (pv 0) rfl) (pa_cons (pe_fld (pv 0) rfl) (pa_cons (pe_tup (StX.pa_star (pe_fld (pv 0) rfl) (pa_cons (pv 6) pa_nil))) (pa_cons (pe_fld (pv 0) rfl) pa_nil))))))))))))), ?_⟩
    have hlen := W.len
    have few := S.few
    refine ⟨_, rfl, _, rfl, p, m, x.en, rfl, W, S.nm, S.fresh, fun H1 s1 => ?_⟩
    refine ⟨_, rfl, _, rfl, p, m, x.bg, rfl, W.same s1, S.bg, fun H2 s2 => ⟨_, rfl, iteF ?_⟩⟩
    have W2 := (W.same s1).same s2
    refine ⟨_, rfl, _, rfl, .int x.lo, .int x.hi, rfl, rfl, rfl, _, rfl, ?_⟩
    have eL : lenB (.int x.lo) (.int x.hi) = true := by
      show (decide (1 ≤ x.lo ∧ x.lo ≤ 1000) && decide (x.lo ≤ x.hi ∧ x.hi ≤ 1000)) = true
      rw [decide_eq_true ⟨S.lo, Int.le_trans S.hi S.top⟩, decide_eq_true ⟨S.hi, S.top⟩]
      rfl
    have eH : (plK (oV x.la)).isSome = true ∧ lateB (oV x.la) = true := by
      cases e : x.la with
      | none => exact ⟨rfl, rfl⟩
      | some i =>
        refine ⟨rfl, ?_⟩
        show (decide (V.int i = V.non) || decide (0 ≤ i ∧ i ≤ 1000)) = true
        rw [decide_eq_true (S.la i e), Bool.or_true]
    rw [eL]
    refine iteF ⟨_, rfl, oV x.la, rfl, eH.1, _, rfl, ?_⟩
    rw [eH.2]
    refine iteF ?_
    obtain ⟨dx, a, b, c, ws, bs, h1, h2, h3, h4, h5, h6⟩ := W2.ex
    have hw : ws.length = m.wd.length := by rw [h4.len, List.length_map]
    refine ⟨_, rfl, p, CW K, dx, _, _, rfl, h1, cl_Web T, na_span_rows T, wf_s, b, _, rfl, .inr (.inl (.inl h3)), _, _, rfl, rfl, _, rfl, ?_⟩
    rw [decide_eq_false (by rw [hw]; omega)]
    refine iteF ?_
    refine ⟨_, rfl, _, rfl, _, rfl, _, rfl, _, rfl, (by show 5 ≤ sizeLine; decide), fun t nt => ?_⟩
    have s3 := same_upd (o := .tup x.row) nt
    refine ⟨_, rfl, p, CW K, dx, _, _, rfl, s3 _ _ h1, cl_Web T, na_by T, wf_by, _, rfl, p, CW K, dx, _, _, rfl, s3 _ _ h1, cl_Web T, na_moment_rows T, wf_m, _, rfl, p, CW K, dx, _, _, rfl, s3 _ _ h1, cl_Web T, na_span_rows T, wf_s, b, _, rfl, .inl (.inl (.inl (s3 _ _ h3))), .ref t, rfl, ?_, fun u nu => ?_⟩
    · rw [List.length_append]
      exact Nat.le_of_lt (small1000 (by show _ + 1 ≤ 1000; omega))
    · have s4 := same_upd (o := .tup (ws ++ [.ref t])) nu
      have s5 := s3.trans s4
      refine ⟨_, rfl, p, CW K, dx, _, _, rfl, s5 _ _ h1, cl_Web T, na_tie_rows T, wf_t, ?_⟩
      have rw' : Rows (upd (upd H2 t (.tup x.row)) u (.tup (ws ++ [.ref t]))) (ws ++ [.ref t]) ((m.addS x).wd.map Wd.row) := by
        show Rows _ _ ((m.wd ++ [x]).map Wd.row)
        rw [List.map_append]
        exact (h4.keep (Kt.of s5)).snoc (s4 _ _ upd_same)
      refine ⟨m.addS x, a, u, c, ws ++ [V.ref t], bs, rfl, s5 _ _ h2, upd_same, rw', s5 _ _ h5, h6.keep (Kt.of s5), ⟨hlen.1, ?_, hlen.2.2⟩, W.last, fun y H5 s6 ny W5 => q y H5 (((s1.trans s2).trans s5).trans s6) (((s1.trans s2).trans s5).free ny) W5⟩
      show (m.wd ++ [x]).length ≤ 4
      rw [List.length_append]
      show _ + 1 ≤ 4
      omega
/-! ### with_tie -/
structure TiOk (m : Md) (x : Bd) : Prop where
  one : x.one ∈ m.pts
  oth : x.oth ∈ m.pts
  ne : ¬ x.one = x.oth
  b : BOk x.bot x.top
  few : m.bd.length < 40
def sp_with_tie (K : PySem.W.Frag) : Sp := fun vs H Q _ => ∃ (p : Addr) (m : Md) (x : Bd), vs = [.ref p, .str x.one, .str x.oth, oV x.bot, oV x.top] ∧ WebAt (CW K) H p m ∧ TiOk m x ∧ ∀ (q : Addr) (H' : Hp), Same H H' → H q = none → WebAt (CW K) H' q (m.addT x) → Q (.ref q) H'
theorem met_Web_with_tie (T : Tp K mg) : MetN P w K mg base 6 (CW K) "with_tie" (sp_with_tie K) 3 ["least", "most"] := by
  obtain ⟨fd, F⟩ := f_Web_with_tie T
  refine ⟨_, fd, ["self", "one", "other", "least", "most"], _, cl_Web T, me_Web_with_tie T, fnok_of (k := 5) F sc_Web_with_tie (fun vs H Q E h => ?_) (fun cdv A outer s H vs Q E hr h => ?_), kbn_of F fun kV doc pm an cdv ct us ws h1 h2 => match us, ws, h1, h2 with
    | [_, _, _], [_, _], _, _ => rfl⟩
  · obtain ⟨p, m, x, rfl, _⟩ := h
    rfl
  · obtain ⟨p, m, x, rfl, W, S, q⟩ := h
    refine ⟨_, (pss_cons (ps_expr (C8.pe_c (cal_need_point T) hr (by decide) rfl (pa_cons (pv 0) (pa_cons (pv 1) pa_nil))))
      (pss_cons (ps_expr (C8.pe_c (cal_need_point T) hr (by decide) rfl (pa_cons (pv 0) (pa_cons (pv 2) pa_nil))))
      (pss_cons (ps_if (PW.pt (pw_or (pt_cmpR op_eq (pv 1) (pv 2) (nomark _)) (pw_or1 (pt_not (pt_val (C8.pe_c (cal_are_bounds T) hr (by decide) rfl (pa_cons (pv 3) (pa_cons (pv 4) pa_nil)))))))) (pss_one ps_never) pss_nil)
      (pss_cons (ps_if (pt_cmpR op_ge (pe_callB call_len_seq (by rfl) (z_len T) bb_len (pa_cons (pe_fld (pv 0) rfl) pa_nil)) (C8.pe_gc (by rfl) (c_MOST_TIES T)) (nomark _)) (pss_one ps_never) pss_nil)
      (pss_cons (ps_set (i := 5) sc_Web_with_tie.nd rfl (.inl rfl) (pe_tup (pa_cons (pv 1) (pa_cons (pv 2) (pa_cons (pv 3) (pa_cons (pv 4) pa_nil))))))
      (pss_one (ps_ret (C8.pe_c (cal_woven T) hr (by decide) rfl (pa_cons (pe_fld (pv 0) rfl) (pa_cons (pe_fld (pv 0) rfl) (pa_cons (pe_fld (pv 0) rfl) (pa_cons (pe_tup (StX.pa_star (pe_fld (pv 0) rfl) (pa_cons (pv 5) pa_nil))) pa_nil)))))))))))), ?_⟩
    have hlen := W.len
    have few := S.few
    refine ⟨_, rfl, _, rfl, p, m, x.one, rfl, W, S.one, fun H1 s1 => ?_⟩
    refine ⟨_, rfl, _, rfl, p, m, x.oth, rfl, W.same s1, S.oth, fun H2 s2 => ?_⟩
    have W2 := (W.same s1).same s2
    refine ⟨_, rfl, _, rfl, rfl, _, rfl, ?_⟩
    rw [decide_eq_false (show ¬ V.str x.one = V.str x.oth from fun e => S.ne (V.str.inj e))]
    refine iteF ⟨_, rfl, _, rfl, x.bot, x.top, rfl, S.b, fun H3 s3 => ⟨_, rfl, iteF ?_⟩⟩
    have W3 := W2.same s3
    obtain ⟨dx, a, b, c, ws, bs, h1, h2, h3, h4, h5, h6⟩ := W3.ex
    have hb : bs.length = m.bd.length := by rw [h6.len, List.length_map]
    refine ⟨_, rfl, p, CW K, dx, _, _, rfl, h1, cl_Web T, na_tie_rows T, wf_t, c, _, rfl, .inr (.inl (.inl h5)), _, _, rfl, rfl, _, rfl, ?_⟩
    rw [decide_eq_false (by rw [hb]; omega)]
    refine iteF ?_
    refine ⟨_, rfl, _, rfl, _, rfl, _, rfl, (by show 4 ≤ sizeLine; decide), fun t nt => ?_⟩
    have s4 := same_upd (o := .tup x.row) nt
    refine ⟨_, rfl, p, CW K, dx, _, _, rfl, s4 _ _ h1, cl_Web T, na_by T, wf_by, _, rfl, p, CW K, dx, _, _, rfl, s4 _ _ h1, cl_Web T, na_moment_rows T, wf_m, _, rfl, p, CW K, dx, _, _, rfl, s4 _ _ h1, cl_Web T, na_span_rows T, wf_s, _, rfl, p, CW K, dx, _, _, rfl, s4 _ _ h1, cl_Web T, na_tie_rows T, wf_t, c, _, rfl, .inl (.inl (.inl (s4 _ _ h5))), .ref t, rfl, ?_, fun u nu => ?_⟩
    · rw [List.length_append]
      exact Nat.le_of_lt (small1000 (by show _ + 1 ≤ 1000; omega))
    · have s5 := same_upd (o := .tup (bs ++ [.ref t])) nu
      have s6 := s4.trans s5
      have rb' : Rows (upd (upd H3 t (.tup x.row)) u (.tup (bs ++ [.ref t]))) (bs ++ [.ref t]) ((m.addT x).bd.map Bd.row) := by
        show Rows _ _ ((m.bd ++ [x]).map Bd.row)
        rw [List.map_append]
        exact (h6.keep (Kt.of s6)).snoc (s5 _ _ upd_same)
      have sa := ((s1.trans s2).trans s3).trans s6
      refine ⟨m.addT x, a, b, u, ws, bs ++ [V.ref t], rfl, s6 _ _ h2, s6 _ _ h3, h4.keep (Kt.of s6), upd_same, rb', ⟨hlen.1, hlen.2.1, ?_⟩, W.last, fun y H5 s7 ny W5 => q y H5 (sa.trans s7) (sa.free ny) W5⟩
      show (m.bd ++ [x]).length ≤ 40
      rw [List.length_append]
      show _ + 1 ≤ 40
      omega
end
end Tw

set_option maxHeartbeats 4000000
namespace Tw
open PySem PySem.Spec PyProof.Rows L2
def inL (c : Nat) : Bool := decide (c ∈ letters.cps.toList)
def nmB (z : Str) : Bool := decide (1 ≤ z.length) && (decide (z.length ≤ 8) && z.cps.toList.all inL)
theorem nmB_ok {z : Str} : nmB z = true ↔ Nm z := by
  unfold nmB Nm inL
  simp only [Bool.and_eq_true, decide_eq_true_eq, List.all_eq_true]
end Tw

set_option maxHeartbeats 4000000
namespace Tw
open PySem PySem.Spec PyProof.Rows L2
/-! ### the law's flow of numbers -/
structure Flow (H : Hp) (f c : Addr) : Prop where
  ex : ∃ (ns : List Int) (i r st : Int), H f = some (.lst [.ref c, .int i, .int r, .int st]) ∧ H c = some (.lst (ns.map V.int)) ∧ 0 ≤ i ∧ 0 ≤ r ∧ 0 ≤ st ∧ st < 2147483647
theorem Flow.lst {H : Hp} {f c : Addr} (h : Flow H f c) : ∃ xs, H f = some (.lst xs) := let ⟨_, _, _, _, e, _⟩ := h.ex; ⟨_, e⟩
theorem Flow.cells {H : Hp} {f c : Addr} (h : Flow H f c) : ∃ xs, H c = some (.lst xs) := let ⟨_, _, _, _, _, e, _⟩ := h.ex; ⟨_, e⟩
theorem Flow.keep {H H' : Hp} {f c : Addr} (h : Flow H f c) (h1 : ∀ o, H f = some o → H' f = some o) (h2 : ∀ o, H c = some o → H' c = some o) : Flow H' f c := by
  obtain ⟨ns, i, r, st, e1, e2, e3⟩ := h.ex
  exact ⟨ns, i, r, st, h1 _ e1, h2 _ e2, e3⟩
theorem Flow.same {H H' : Hp} {f c : Addr} (h : Flow H f c) (s : Same H H') : Flow H' f c := h.keep (fun _ e => s _ _ e) (fun _ e => s _ _ e)
theorem Flow.upd {H : Hp} {f c p : Addr} {o : HO} (h : Flow H f c) (n1 : f ≠ p) (n2 : c ≠ p) : Flow (upd H p o) f c := h.keep (fun _ e => by rw [upd_ne n1]; exact e) (fun _ e => by rw [upd_ne n2]; exact e)
theorem flow_ne {H : Hp} {f c : Addr} {i r st : Int} {ns : List Int} (h1 : H f = some (.lst [.ref c, .int i, .int r, .int st])) (h2 : H c = some (.lst (ns.map V.int))) : c ≠ f := by
  refine ne_of h2 h1 fun e => ?_
  have e := HO.lst.inj e
  cases ns with
  | nil => cases e
  | cons x l =>
    have e1 := (List.cons.inj e).1
    cases e1
theorem Flow.put {H : Hp} {f c : Addr} {i r st : Int} {ns : List Int} (h1 : H f = some (.lst [.ref c, .int i, .int r, .int st])) (h2 : H c = some (.lst (ns.map V.int))) {i' r' st' : Int} (a : 0 ≤ i') (b : 0 ≤ r') (d : 0 ≤ st') (e : st' < 2147483647) :
    Flow (L2.upd H f (.lst [.ref c, .int i', .int r', .int st'])) f c := ⟨ns, i', r', st', upd_same, by rw [upd_ne (flow_ne h1 h2)]; exact h2, a, b, d, e⟩
theorem cut_ints (ns : List Int) (lo hi : Option Int) : ∃ ms : List Int, cutV (ns.map V.int) lo hi = ms.map V.int := by
  unfold cutV
  refine ⟨(ns.drop (HT.sIx (ns.map V.int).length 0 lo)).take (HT.sIx (ns.map V.int).length (ns.map V.int).length hi - HT.sIx (ns.map V.int).length 0 lo), ?_⟩
  rw [List.map_take, List.map_drop]
theorem fm_lo (x : Int) {n : Int} (h : 0 < n) : 0 ≤ x.fmod n := by
  rw [Int.fmod_eq_emod_of_nonneg _ (Int.le_of_lt h)]
  exact Int.emod_nonneg _ (Int.ne_of_gt h)
theorem fm_hi (x : Int) {n : Int} (h : 0 < n) : x.fmod n < n := by
  rw [Int.fmod_eq_emod_of_nonneg _ (Int.le_of_lt h)]
  exact Int.emod_lt_of_pos _ h
theorem fd_lo {x n : Int} (hx : 0 ≤ x) (h : 0 < n) : 0 ≤ x.fdiv n := by
  rw [Int.fdiv_eq_ediv_of_nonneg _ (Int.le_of_lt h)]
  exact Int.ediv_nonneg hx (Int.le_of_lt h)
theorem abs_lo (x : Int) : (0 : Int) ≤ if x < 0 then -x else x := by
  split <;> omega
section
variable {P : Program} {w : World} {K : PySem.W.Frag} {mg : Str → Option Value} {base : Heap}
def CDivX (_ j : Int) : Prop := j ≠ 0 ∧ j.natAbs.log2 < 9000
theorem op_fdivX {X : Cx} : OpR X (binaryOp .FloorDiv) (rI CDivX fun i j => .int (i.fdiv j)) := opI fun _ _ _ _ _ _ _ hc q => floordiv_int hc.1 q (.inl (PyProof.noPylong_of_log2 hc.2))
theorem big_log {n : Int} (h1 : n < 1606938044258990275541962092341162602522202993782792835301376) (h0 : 0 < n) : n.natAbs.log2 < 9000 := by
  have h : n.natAbs < 2 ^ 200 := by
    have e : (2 : Nat) ^ 200 = 1606938044258990275541962092341162602522202993782792835301376 := by decide +kernel
    rw [e]
    omega
  exact Nat.lt_trans ((Nat.log2_lt (by omega)).mpr h) (by decide)
def sp_flow (K : PySem.W.Frag) : Sp := fun vs H Q _ => ∃ (a : Addr) (ns : List Int), vs = [.ref a] ∧ SqL K H a (ns.map V.int) ∧ ∀ (f c : Addr) (H' : Hp), Same H H' → H f = none → H c = none → Flow H' f c → Q (.ref f) H'
theorem cal__law_flow (T : Tp K mg) : Cal P w K mg base 2 "_law_flow" (sp_flow K) := by
  obtain ⟨fd, F⟩ := f__law_flow T
  refine cal_of F (g__law_flow T) (b__law_flow F) sc__law_flow (fun vs H Q E h => ?_) (fun cdv A outer s H vs Q E hr h => ?_)
  · obtain ⟨a, ns, rfl, _⟩ := h
    rfl
  · obtain ⟨a, ns, rfl, hS, q⟩ := h
    refine ⟨_, (pss_one (ps_ret (pe_lst (pa_cons (pe_callTy call_list_of (by rfl) (z_list T) bb_list (pa_cons (pe_slice sl_list (pv 0) po_none (po_some pe_int)) pa_nil)) (pa_cons pe_int (pa_cons pe_int (pa_cons pe_int pa_nil))))))), ?_⟩
    refine ⟨_, rfl, 63, rfl, a, _, rfl, hS, fun p np => ?_⟩
    obtain ⟨ms, e⟩ := cut_ints ns none (some 63)
    rw [e]
    have s1 := same_upd (o := .lst (ms.map V.int)) np
    refine ⟨p, _, rfl, .inl (.inl (.inl upd_same)), fun l nl => ?_⟩
    have s2 := same_upd (o := .lst (ms.map V.int)) nl
    refine ⟨by show 4 ≤ sizeLine; decide, fun f nf => ?_⟩
    have s3 := same_upd (o := .lst [.ref l, .int 0, .int 0, .int 11]) nf
    have sa := s1.trans s2
    exact q f l _ (sa.trans s3) (sa.free nf) (s1.free nl) ⟨ms, 0, 0, 11, upd_same, s3 _ _ upd_same, by decide, by decide, by decide, by decide⟩
/-! ### _law_draw -/
def sp_draw : Sp := fun vs H Q _ => ∃ (f c : Addr) (n : Int), vs = [.ref f, .int n] ∧ Flow H f c ∧ 0 < n ∧ n < 1606938044258990275541962092341162602522202993782792835301376 ∧ ∀ (v : Int) (H' : Hp), 0 ≤ v → v < n → Sb f H H' → Flow H' f c → Q (.int v) H'
theorem cal__law_draw (T : Tp K mg) : Cal P w K mg base 2 "_law_draw" sp_draw := by
  obtain ⟨fd, F⟩ := f__law_draw T
  refine cal_of F (g__law_draw T) (b__law_draw F) sc__law_draw (fun vs H Q E h => ?_) (fun cdv A outer s H vs Q E hr h => ?_)
  · obtain ⟨f, c, n, rfl, _⟩ := h
    rfl
  · obtain ⟨f, c, n, rfl, FL, n0, n1, q⟩ := h
    obtain ⟨ns, i, r, st, hf, hc, i0, r0, st0, st1⟩ := FL.ex
    have hn : n ≠ 0 := by omega
    have hdiv : CDivX r n := ⟨hn, big_log n1 n0⟩
    have ncf := flow_ne hf hc
    refine ⟨_, (pss_cons (ps_if (pt_cmpR op_gt (pe_ix ix_list (pv 0) pe_int (fun _ _ => rfl)) pe_int (nomark _)) (pss_cons (ps_set (i := 2) sc__law_draw.nd rfl (.inl rfl) (pe_op op_modN (pe_ix ix_list (pv 0) pe_int (fun _ _ => rfl)) (pv 1)))
        (pss_cons (ps_asg (pe_op op_fdivX (pe_ix ix_list (pv 0) pe_int (fun _ _ => rfl)) (pv 1)) (pg_sub (pv 0) pe_int set_list))
        (pss_one (ps_ret (pv 2))))) pss_nil)
      (pss_cons (ps_set (i := 3) sc__law_draw.nd rfl (.inl rfl) pe_int)
      (C8.pss_cut (ps_if (pt_cmpR op_lt (pe_ix ix_list (pv 0) pe_int (fun _ _ => rfl)) (pe_callB call_len_seq (by rfl) (z_len T) bb_len (pa_cons (pe_ix ix_list (pv 0) pe_int (fun _ _ => rfl)) pa_nil)) (nomark _)) (pss_one (ps_set (i := 3) sc__law_draw.nd rfl (.inl rfl) (pe_ix ix_list (pe_ix ix_list (pv 0) pe_int (fun _ _ => rfl)) (pe_ix ix_list (pv 0) pe_int (fun _ _ => rfl)) (fun _ _ => rfl)))) pss_nil)
      (pss_cons (ps_asg (pe_op op_add (pe_ix ix_list (pv 0) pe_int (fun _ _ => rfl)) pe_int) (pg_sub (pv 0) pe_int set_list))
      (pss_cons (ps_if (pt_cmpR op_ge (pe_callB call_abs (by rfl) (z_abs T) bb_abs (pa_cons (pv 3) pa_nil)) (pe_op op_pow pe_int pe_int) (nomark _)) (pss_cons (ps_asg (pe_op op_fdivX (pe_callB call_abs (by rfl) (z_abs T) bb_abs (pa_cons (pv 3) pa_nil)) (pv 1)) (pg_sub (pv 0) pe_int set_list))
        (pss_one (ps_ret (pe_op op_modN (pe_callB call_abs (by rfl) (z_abs T) bb_abs (pa_cons (pv 3) pa_nil)) (pv 1))))) pss_nil)
      (pss_cons (ps_set (i := 4) sc__law_draw.nd rfl (.inl rfl) (pe_op op_add (pe_op op_add (pe_op op_pow (pe_ix ix_list (pv 0) pe_int (fun _ _ => rfl)) pe_int) (pe_op op_mul (pe_ix ix_list (pv 0) pe_int (fun _ _ => rfl)) pe_int)) (pe_op op_mul (pe_ix ix_list (pv 0) pe_int (fun _ _ => rfl)) pe_int)))
      (pss_cons (ps_set (i := 4) sc__law_draw.nd rfl (.inl rfl) (pe_op op_modN (pe_op op_add (pv 4) (pe_op op_mul (pe_op op_modN (pv 3) pe_int) pe_int)) pe_int))
      (pss_cons (ps_asg (pv 4) (pg_sub (pv 0) pe_int set_list))
      (pss_one (ps_ret (pe_op op_modN (pe_op op_add (pe_op op_fdivN (pv 4) pe_int) (pe_op op_mul (pe_op op_modN (pv 4) pe_int) pe_int)) (pv 1)))))))))))), ?_⟩
    refine ⟨_, rfl, f, _, 2, _, rfl, rfl, .inl (.inl hf), atI_nat (j := 2) rfl, _, _, rfl, rfl, _, rfl, ite2 (fun e => ?_) (fun e => ?_)⟩
    · -- numbers are left of a great one
      refine ⟨_, rfl, f, _, 2, _, rfl, rfl, .inl (.inl hf), atI_nat (j := 2) rfl, _, rfl, _, _, rfl, rfl, hn, ?_⟩
      refine ⟨_, rfl, f, _, 2, _, rfl, rfl, .inl (.inl hf), atI_nat (j := 2) rfl, _, rfl, _, _, rfl, rfl, hdiv, _, rfl, f, _, 2, 2, rfl, rfl, hf, rfl, ?_⟩
      exact ⟨_, rfl, q _ _ (fm_lo _ n0) (fm_hi _ n0) Sb.upd (Flow.put hf hc i0 (fd_lo r0 n0) st0 st1)⟩
    · -- the next cell
      refine ⟨fun σ' H' => H' = H ∧ ∃ x : Int, σ' = [some (.ref f), some (.int n), none, some (.int x), none], ?_, ?_⟩
      · refine ⟨_, rfl, f, _, 1, _, rfl, rfl, .inl (.inl hf), atI_nat (j := 1) rfl, _, rfl, f, _, 0, _, rfl, rfl, .inl (.inl hf), atI_nat (j := 0) rfl, c, _, rfl, .inl (.inl (.inl hc)), _, _, rfl, rfl, _, rfl, ite2 (fun e => ?_) (fun e => ?_)⟩
        · have hi : i < ((ns.map V.int).length : Int) := of_decide_eq_true e
          rw [List.length_map] at hi
          have hj : i.toNat < ns.length := by omega
          refine ⟨_, rfl, f, _, 0, _, rfl, rfl, .inl (.inl hf), atI_nat (j := 0) rfl, _, rfl, f, _, 1, _, rfl, rfl, .inl (.inl hf), atI_nat (j := 1) rfl, c, _, i, .int ns[i.toNat], rfl, rfl, .inl (.inl hc), ?_, rfl, ns[i.toNat], rfl⟩
          refine at_of (j := i.toNat) (by omega) ?_
          rw [List.getElem?_map, List.getElem?_eq_getElem hj]
          rfl
        · exact ⟨rfl, 0, rfl⟩
      · rintro σ' H' ⟨rfl, x, rfl⟩
        -- flow[1] = flow[1] + 1
        refine ⟨_, rfl, f, _, 1, _, rfl, rfl, .inl (.inl hf), atI_nat (j := 1) rfl, _, _, rfl, rfl, _, rfl, f, _, 1, 1, rfl, rfl, hf, rfl, ?_⟩
        have hf1 : (upd H' f (.lst [.ref c, .int (i + 1), .int r, .int st])) f = some (.lst [.ref c, .int (i + 1), .int r, .int st]) := upd_same
        have hc1 : (upd H' f (.lst [.ref c, .int (i + 1), .int r, .int st])) c = some (.lst (ns.map V.int)) := by
          rw [upd_ne ncf]
          exact hc
        have sb1 : Sb f H' (upd H' f (.lst [.ref c, .int (i + 1), .int r, .int st])) := Sb.upd
        have a0 := abs_lo x
        refine ⟨_, rfl, _, rfl, 10, 18, rfl, rfl, ⟨by decide, by decide, by decide⟩, _, _, rfl, rfl, _, rfl, ite2 (fun e => ?_) (fun e => ?_)⟩
        · refine ⟨_, rfl, _, rfl, _, rfl, _, _, rfl, rfl, ⟨hn, big_log n1 n0⟩, _, rfl, f, _, 2, 2, rfl, rfl, hf1, rfl, ?_⟩
          exact ⟨_, rfl, _, rfl, _, rfl, _, _, rfl, rfl, hn, q _ _ (fm_lo _ n0) (fm_hi _ n0) (sb1.trans Sb.upd) (Flow.put hf1 hc1 (by omega) (fd_lo a0 n0) st0 st1)⟩
        · refine ⟨_, rfl, f, _, 3, _, rfl, rfl, .inl (.inl hf1), atI_nat (j := 3) rfl, st, 3, rfl, rfl, ⟨by decide, by decide, by omega⟩, ?_⟩
          refine ⟨_, rfl, f, _, 3, _, rfl, rfl, .inl (.inl hf1), atI_nat (j := 3) rfl, st, 31, rfl, rfl, .inr ⟨by decide, by decide⟩, _, _, rfl, rfl, ?_⟩
          refine ⟨_, rfl, f, _, 1, _, rfl, rfl, .inl (.inl hf1), atI_nat (j := 1) rfl, i + 1, 69621, rfl, rfl, .inr ⟨by decide, by decide⟩, _, _, rfl, rfl, ?_⟩
          refine ⟨_, rfl, _, rfl, x, 2147483629, rfl, rfl, (show (2147483629 : Int) ≠ 0 by decide), _, 48271, rfl, rfl, .inr ⟨by decide, by decide⟩, _, _, rfl, rfl, _, 2147483647, rfl, rfl, (show (2147483647 : Int) ≠ 0 by decide), ?_⟩
          have b0 := fm_lo (st ^ (3 : Int).toNat + st * 31 + (i + 1) * 69621 + x.fmod 2147483629 * 48271) (n := 2147483647) (by decide)
          have b1 := fm_hi (st ^ (3 : Int).toNat + st * 31 + (i + 1) * 69621 + x.fmod 2147483629 * 48271) (n := 2147483647) (by decide)
          refine ⟨_, rfl, _, rfl, f, _, 3, 3, rfl, rfl, hf1, rfl, ?_⟩
          refine ⟨_, rfl, _, 8192, rfl, rfl, ⟨by decide, by decide⟩, _, rfl, _, 8191, rfl, rfl, (show (8191 : Int) ≠ 0 by decide), _, 40503, rfl, rfl, .inr ⟨by decide, by decide⟩, _, _, rfl, rfl, _, rfl, _, n, rfl, rfl, hn, ?_⟩
          exact q _ _ (fm_lo _ n0) (fm_hi _ n0) (sb1.trans Sb.upd) (Flow.put hf1 hc1 (by omega) r0 b0 b1)
/-! ### _law_pick -/
def sp_pick : Sp := fun vs H Q _ => ∃ (f c l : Addr) (xs : List V), vs = [.ref f, .ref l] ∧ Flow H f c ∧ H l = some (.lst xs) ∧ l ≠ f ∧ 0 < xs.length ∧ xs.length ≤ 1000 ∧ ∀ (v : V) (H' : Hp), v ∈ xs → Sb f H H' → Flow H' f c → Q v H'
theorem cal__law_pick (T : Tp K mg) : Cal P w K mg base 3 "_law_pick" sp_pick := by
  obtain ⟨fd, F⟩ := f__law_pick T
  refine cal_of F (g__law_pick T) (b__law_pick F) sc__law_pick (fun vs H Q E h => ?_) (fun cdv A outer s H vs Q E hr h => ?_)
  · obtain ⟨f, c, l, xs, rfl, _⟩ := h
    rfl
  · obtain ⟨f, c, l, xs, rfl, FL, hl, nlf, h0, h1, q⟩ := h
    refine ⟨_, (pss_one (ps_ret (pe_ix ix_list (pv 1) (C8.pe_c (cal__law_draw T) hr (by decide) rfl (pa_cons (pv 0) (pa_cons (pe_callB call_len_seq (by rfl) (z_len T) bb_len (pa_cons (pv 1) pa_nil)) pa_nil))) (fun _ _ => rfl)))), ?_⟩
    refine ⟨_, rfl, _, rfl, _, rfl, l, _, rfl, .inl (.inl (.inl hl)), f, c, _, rfl, FL, by omega, by omega, fun v H1 v0 v1 sb F1 => ?_⟩
    have hv : v.toNat < xs.length := by omega
    exact ⟨l, xs, v, xs[v.toNat], rfl, rfl, .inl (.inl (sb _ _ hl nlf)), at_of (j := v.toNat) (by omega) (List.getElem?_eq_getElem hv), q _ H1 (List.getElem_mem hv) sb F1⟩
end
end Tw

set_option maxHeartbeats 4000000
namespace Tw
open PySem PySem.Spec PyProof.Rows L2
/-! ### the law's own picture of a web: a dict -/
abbrev kBy : Key := .inr "by"
abbrev kOwn : Key := .inr "own"
abbrev kWd : Key := .inr "winds"
abbrev kBd : Key := .inr "bonds"
theorem k1 : ¬ kBy = kOwn := by decide +kernel
theorem k2 : ¬ kBy = kWd := by decide +kernel
theorem k3 : ¬ kBy = kBd := by decide +kernel
theorem k4 : ¬ kOwn = kWd := by decide +kernel
theorem k5 : ¬ kOwn = kBd := by decide +kernel
theorem k6 : ¬ kWd = kBd := by decide +kernel
def mk (l : Int) (o w b : Addr) : List (Key × V) := [(kBy, .int l), (kOwn, .ref o), (kWd, .ref w), (kBd, .ref b)]
section
variable {l : Int} {o w b o2 : Addr} {H : Hp} {d : Addr}
theorem mk_by (h : H d = some (.dK (mk l o w b))) : DGet H d (.str "by") (some (.int l)) := .inl ⟨_, kBy, .inl h, rfl, by
  unfold mk
  rw [valV_pos rfl]⟩
theorem mk_own (h : H d = some (.dK (mk l o w b))) : DGet H d (.str "own") (some (.ref o)) := .inl ⟨_, kOwn, .inl h, rfl, by
  unfold mk
  rw [valV_neg k1, valV_pos rfl]⟩
theorem mk_wd (h : H d = some (.dK (mk l o w b))) : DGet H d (.str "winds") (some (.ref w)) := .inl ⟨_, kWd, .inl h, rfl, by
  unfold mk
  rw [valV_neg k2, valV_neg k4, valV_pos rfl]⟩
theorem mk_bd (h : H d = some (.dK (mk l o w b))) : DGet H d (.str "bonds") (some (.ref b)) := .inl ⟨_, kBd, .inl h, rfl, by
  unfold mk
  rw [valV_neg k3, valV_neg k5, valV_neg k6, valV_pos rfl]⟩
theorem mk_putOwn : putK (mk l o w b) kOwn (.ref o2) = mk l o2 w b := by
  have n4 : ¬ kWd = kOwn := fun e => k4 e.symm
  have n5 : ¬ kBd = kOwn := fun e => k5 e.symm
  unfold putK mk
  rw [if_pos (by rw [List.any_cons, List.any_cons, decide_eq_true (rfl : kOwn = kOwn)]; simp)]
  simp only [List.map_cons, List.map_nil, if_neg k1, if_neg n4, if_neg n5, if_true]
end
theorem mk_merge (l : Int) (o w b : Addr) : mergeK [] [(kBy, .int l), (kOwn, .ref o), (kWd, .ref w), (kBd, .ref b)] = mk l o w b := by
  show putK (putK (putK (putK [] kBy (.int l)) kOwn (.ref o)) kWd (.ref w)) kBd (.ref b) = mk l o w b
  rw [putK_new (kvs := []) _ valV_nil, List.nil_append]
  rw [putK_new (kvs := [(kBy, V.int l)]) _ (by rw [valV_neg k1]; rfl), List.singleton_append]
  rw [putK_new (kvs := [(kBy, V.int l), (kOwn, V.ref o)]) _ (by rw [valV_neg k2, valV_neg k4]; rfl), List.cons_append, List.singleton_append]
  rw [putK_new (kvs := [(kBy, V.int l), (kOwn, V.ref o), (kWd, V.ref w)]) _ (by rw [valV_neg k3, valV_neg k5, valV_neg k6]; rfl)]
  rfl
/-- the picture m stands at d -/
structure MdAt (H : Hp) (d : Addr) (m : Md) : Prop where
  ex : ∃ (o w b : Addr) (ws bs : List V), H d = some (.dK (mk m.last o w b)) ∧ H o = some (.lst (m.own.map V.str)) ∧ H w = some (.lst ws) ∧ Rows H ws (m.wd.map Wd.row) ∧ H b = some (.lst bs) ∧ Rows H bs (m.bd.map Bd.row) ∧ o ≠ w ∧ o ≠ b ∧ w ≠ b
/-- .. with its three lists at o, w, b -/
structure MdX (H : Hp) (d o w b : Addr) (m : Md) : Prop where
  dk : H d = some (.dK (mk m.last o w b))
  own : H o = some (.lst (m.own.map V.str))
  wd : ∃ ws, H w = some (.lst ws) ∧ Rows H ws (m.wd.map Wd.row)
  bd : ∃ bs, H b = some (.lst bs) ∧ Rows H bs (m.bd.map Bd.row)
  now : o ≠ w
  nob : o ≠ b
  nwb : w ≠ b
theorem MdX.at {H : Hp} {d o w b : Addr} {m : Md} (M : MdX H d o w b m) : MdAt H d m := by
  obtain ⟨ws, h1, h2⟩ := M.wd
  obtain ⟨bs, h3, h4⟩ := M.bd
  exact ⟨o, w, b, ws, bs, M.dk, M.own, h1, h2, h3, h4, M.now, M.nob, M.nwb⟩
theorem strs_flow {H : Hp} {f c a : Addr} {l : List Str} (F : Flow H f c) (h : H a = some (.lst (l.map V.str))) : a ≠ f := by
  obtain ⟨ns, i, r, st, h1, _⟩ := F.ex
  refine ne_of h h1 fun e => ?_
  have e := HO.lst.inj e
  cases l with
  | nil => cases e
  | cons x t =>
    have e1 := (List.cons.inj e).1
    cases e1
theorem rows_flow {H : Hp} {f c a : Addr} {xs : List V} {rs : List (List V)} (F : Flow H f c) (h : H a = some (.lst xs)) (R : Rows H xs rs) : a ≠ f := by
  obtain ⟨ns, i, r, st, h1, _⟩ := F.ex
  refine ne_of h h1 fun e => ?_
  have e := HO.lst.inj e
  subst e
  obtain ⟨t, r', e1, _⟩ := R.at (i := 1) (x := .int i) rfl
  cases e1
theorem MdAt.same {H H' : Hp} {d : Addr} {m : Md} (M : MdAt H d m) (s : Same H H') : MdAt H' d m := by
  obtain ⟨o, w, b, ws, bs, h1, h2, h3, h4, h5, h6, h7⟩ := M.ex
  exact ⟨o, w, b, ws, bs, s _ _ h1, s _ _ h2, s _ _ h3, h4.keep (Kt.of s), s _ _ h5, h6.keep (Kt.of s), h7⟩
theorem MdAt.sb {H H' : Hp} {f c d : Addr} {m : Md} (M : MdAt H d m) (F : Flow H f c) (s : Sb f H H') : MdAt H' d m := by
  obtain ⟨o, w, b, ws, bs, h1, h2, h3, h4, h5, h6, h7⟩ := M.ex
  obtain ⟨xs, hf⟩ := F.lst
  have k := s.kt hf
  exact ⟨o, w, b, ws, bs, s _ _ h1 (ne_of h1 hf (by intro z; cases z)), s _ _ h2 (strs_flow F h2), s _ _ h3 (rows_flow F h3 h4), h4.keep k, s _ _ h5 (rows_flow F h5 h6), h6.keep k, h7⟩
theorem MdX.same {H H' : Hp} {d o w b : Addr} {m : Md} (M : MdX H d o w b m) (s : Same H H') : MdX H' d o w b m := by
  obtain ⟨ws, h1, h2⟩ := M.wd
  obtain ⟨bs, h3, h4⟩ := M.bd
  exact ⟨s _ _ M.dk, s _ _ M.own, ⟨ws, s _ _ h1, h2.keep (Kt.of s)⟩, ⟨bs, s _ _ h3, h4.keep (Kt.of s)⟩, M.now, M.nob, M.nwb⟩
theorem MdX.sb {H H' : Hp} {f c d o w b : Addr} {m : Md} (M : MdX H d o w b m) (F : Flow H f c) (s : Sb f H H') : MdX H' d o w b m := by
  obtain ⟨ws, h1, h2⟩ := M.wd
  obtain ⟨bs, h3, h4⟩ := M.bd
  obtain ⟨xs, hf⟩ := F.lst
  have k := s.kt hf
  exact ⟨s _ _ M.dk (ne_of M.dk hf (by intro z; cases z)), s _ _ M.own (strs_flow F M.own), ⟨ws, s _ _ h1 (rows_flow F h1 h2), h2.keep k⟩, ⟨bs, s _ _ h3 (rows_flow F h3 h4), h4.keep k⟩, M.now, M.nob, M.nwb⟩
/-- a span more -/
theorem MdX.addW {H : Hp} {d o w b t : Addr} {m : Md} {x : Wd} {ws : List V} (M : MdX H d o w b m) (e : H w = some (.lst ws)) (R : Rows H ws (m.wd.map Wd.row)) (ht : H t = some (.tup x.row)) : MdX (upd H w (.lst (ws ++ [.ref t]))) d o w b (m.addS x) := by
  obtain ⟨bs, h3, h4⟩ := M.bd
  have k : Kt H (upd H w (.lst (ws ++ [.ref t]))) := Kt.upd fun xs z => by
    rw [e] at z
    cases z
  refine ⟨?_, ?_, ⟨_, upd_same, ?_⟩, ⟨bs, ?_, h4.keep k⟩, M.now, M.nob, M.nwb⟩
  · rw [upd_ne (ne_of M.dk e (by intro z; cases z))]
    exact M.dk
  · rw [upd_ne M.now]
    exact M.own
  · show Rows _ _ ((m.wd ++ [x]).map Wd.row)
    rw [List.map_append]
    exact (R.keep k).snoc (k _ _ ht)
  · rw [upd_ne M.nwb.symm]
    exact h3
/-- a tie more -/
theorem MdX.addB {H : Hp} {d o w b t : Addr} {m : Md} {x : Bd} {bs : List V} (M : MdX H d o w b m) (e : H b = some (.lst bs)) (R : Rows H bs (m.bd.map Bd.row)) (ht : H t = some (.tup x.row)) : MdX (upd H b (.lst (bs ++ [.ref t]))) d o w b (m.addT x) := by
  obtain ⟨ws, h3, h4⟩ := M.wd
  have k : Kt H (upd H b (.lst (bs ++ [.ref t]))) := Kt.upd fun xs z => by
    rw [e] at z
    cases z
  refine ⟨?_, ?_, ⟨ws, ?_, h4.keep k⟩, ⟨_, upd_same, ?_⟩, M.now, M.nob, M.nwb⟩
  · rw [upd_ne (ne_of M.dk e (by intro z; cases z))]
    exact M.dk
  · rw [upd_ne M.nob]
    exact M.own
  · rw [upd_ne M.nwb]
    exact h3
  · show Rows _ _ ((m.bd ++ [x]).map Bd.row)
    rw [List.map_append]
    exact (R.keep k).snoc (k _ _ ht)
/-- the names that are drawn -/
def pool : List Str := ["a", "bb", "c", "zzzzzzzz", "ab", "x", "late", "by", "q", "tie", "ends", "waits", "k", "ba"]
theorem pool_nd : pool.Nodup := by decide +kernel
theorem pool_ok : (pool.all fun z => decide (1 ≤ z.length) && decide (z.length ≤ 8) && (z.cps.toList.all fun c => decide (c ∈ letters.cps.toList)) && !decide (z = "start")) = true := by decide +kernel
theorem pool_nm {z : Str} (h : z ∈ pool) : Nm z ∧ ¬ z = "start" := by
  have e := List.all_eq_true.mp pool_ok z h
  simp only [Bool.and_eq_true, decide_eq_true_eq, List.all_eq_true, Bool.not_eq_true', decide_eq_false_iff_not] at e
  exact ⟨⟨e.1.1.1, e.1.1.2, e.1.2⟩, e.2⟩
theorem pull_perm {α : Type} : ∀ (r : List α) (v : Nat) (h : v < r.length), (r[v] :: r.eraseIdx v).Perm r
  | [], v, h => absurd h (Nat.not_lt_zero _)
  | a :: r, 0, h => List.Perm.refl _
  | a :: r, v + 1, h => by
    have ih := pull_perm r v (Nat.lt_of_succ_lt_succ h)
    exact (List.Perm.swap a (r[v]'(Nat.lt_of_succ_lt_succ h)) (r.eraseIdx v)).trans (ih.cons a)
theorem erase_map {α β : Type} (g : α → β) : ∀ (r : List α) (v : Nat), (r.map g).eraseIdx v = (r.eraseIdx v).map g
  | [], _ => rfl
  | a :: r, 0 => rfl
  | a :: r, v + 1 => congrArg (g a :: ·) (erase_map g r v)
theorem nd_pull {l r : List Str} {v : Nat} (h : v < r.length) (nd : (l ++ r).Nodup) : ((l ++ [r[v]]) ++ r.eraseIdx v).Nodup := by
  have p : (r[v] :: r.eraseIdx v).Perm r := pull_perm r v h
  rw [List.append_assoc, List.singleton_append]
  exact (p.append_left l).nodup_iff.mpr nd
theorem mem_pull {r : List Str} {v : Nat} {z : Str} (h : v < r.length) : z ∈ r[v] :: r.eraseIdx v ↔ z ∈ r := (pull_perm r v h).mem_iff
section
variable {P : Program} {w : World} {K : PySem.W.Frag} {mg : Str → Option Value} {base : Heap}
/-! ### _law_names -/
def sp_names : Sp := fun vs H Q _ => ∃ (f c : Addr) (n : Int), vs = [.ref f, .int n] ∧ Flow H f c ∧ 0 ≤ n ∧ n ≤ 14 ∧ ∀ (q : Addr) (ns : List Str) (H' : Hp), Sb f H H' → Flow H' f c → H q = none → H' q = some (.lst (ns.map V.str)) → ns.length = n.toNat → ns.Nodup → (∀ z ∈ ns, z ∈ pool) → Q (.ref q) H'
theorem cal__law_names (T : Tp K mg) : Cal P w K mg base 3 "_law_names" sp_names := by
  obtain ⟨fd, F⟩ := f__law_names T
  refine cal_of F (g__law_names T) (b__law_names F) sc__law_names (fun vs H Q E h => ?_) (fun cdv A outer s H vs Q E hr h => ?_)
  · obtain ⟨f, c, n, rfl, _⟩ := h
    rfl
  · obtain ⟨f, c, n, rfl, FL, n0, n1, q⟩ := h
    refine ⟨_, (pss_cons (ps_set (i := 2) sc__law_names.nd rfl (.inl rfl) (pe_lst (pa_cons pe_str (pa_cons pe_str (pa_cons pe_str (pa_cons pe_str (pa_cons pe_str (pa_cons pe_str (pa_cons pe_str (pa_cons pe_str (pa_cons pe_str (pa_cons pe_str (pa_cons pe_str (pa_cons pe_str (pa_cons pe_str (pa_cons pe_str pa_nil))))))))))))))))
      (pss_cons (ps_set (i := 3) sc__law_names.nd rfl (.inl rfl) (pe_lst pa_nil))
      (pss_cons (ps_for PassesOwn.never rfl (pi_range1 rfl (z_range T) (pa_cons (pv 1) pa_nil)) (pg_name (i := 4) sc__law_names.nd rfl (.inl rfl))
        (pss_one (ps_expr (pe_bm PySem.F.plainAttrs_list PySem.F.slot_list_append PySem.F.type_list_append mt_append (pv 3) (pa_cons (pe_bm PySem.F.plainAttrs_list PySem.F.slot_list_pop PySem.F.type_list_pop mt_popAt (pv 2) (pa_cons (C8.pe_c (cal__law_draw T) hr (by decide) rfl (pa_cons (pv 0) (pa_cons (pe_callB call_len_seq (by rfl) (z_len T) bb_len (pa_cons (pv 2) pa_nil)) pa_nil))) pa_nil)) pa_nil)))))
      (pss_one (ps_ret (pv 3)))))), ?_⟩
    refine ⟨by show 14 ≤ sizeLine; decide, fun l nl => ?_⟩
    have s1 := same_upd (o := .lst (pool.map V.str)) nl
    refine ⟨Nat.zero_le _, fun k nk => ?_⟩
    have s2 := same_upd (o := .lst []) nk
    have sa := s1.trans s2
    have nkH : H k = none := s1.free nk
    have nlk : l ≠ k := fun z => by
      rw [← z, upd_same] at nk
      cases nk
    obtain ⟨xs, hf⟩ := FL.lst
    have nlf : l ≠ f := (ne_of_none hf nl).symm
    have nkf : k ≠ f := (ne_of_none hf nkH).symm
    obtain ⟨ys, hc⟩ := FL.cells
    have ncl : c ≠ l := ne_of_none hc nl
    have nck : c ≠ k := ne_of_none hc nkH
    refine ⟨_, rfl, n, rfl, by omega, by omega, ?_⟩
    refine for_range (lo := 0) (n := n.toNat) (fun i σ H1 => ∃ (y : Option V) (ns rest : List Str), σ = [some (.ref f), some (.int n), some (.ref l), some (.ref k), y] ∧ Sb f H H1 ∧ Flow H1 f c ∧ H1 l = some (.lst (rest.map V.str)) ∧ H1 k = some (.lst (ns.map V.str)) ∧
      ns.length = i ∧ rest.length + i = 14 ∧ (ns ++ rest).Nodup ∧ ∀ z ∈ ns ++ rest, z ∈ pool) ?_ ?_ ?_
    · exact ⟨none, [], pool, rfl, Sb.of sa, FL.same sa, s2 _ _ upd_same, upd_same, rfl, rfl, pool_nd, fun z h => h⟩
    · rintro i σ H1 hi ⟨y, ns, rest, rfl, sb, F1, hl1, hk1, el, er, nd, hp⟩
      have hlen : (rest.map V.str).length = 14 - i := by
        rw [List.length_map]
        omega
      refine ⟨_, rfl, .inl ⟨rfl, _, .inl (.inl hk1)⟩, _, rfl, .inl ⟨rfl, _, .inl (.inl hl1)⟩, _, rfl, _, rfl, l, _, rfl, .inl (.inl (.inl hl1)), f, c, _, rfl, F1, by omega, by omega, fun v H2 v0 v1 sb2 F2 => ?_⟩
      have hv : v.toNat < rest.length := by
        rw [hlen] at v1
        omega
      have hl2 := sb2 _ _ hl1 nlf
      have hk2 := sb2 _ _ hk1 nkf
      refine ⟨l, _, v, v.toNat, .str rest[v.toNat], rfl, rfl, hl2, by omega, by omega, ?_, ?_, k, _, _, rfl, rfl, (by rw [upd_ne nlk.symm]; exact hk2), ?_, ?_⟩
      · unfold seqIndex?
        rw [if_neg (show ¬ v < 0 by omega), if_pos (by simp only [Bool.and_eq_true, decide_eq_true_eq]; omega)]
      · rw [List.getElem?_map, List.getElem?_eq_getElem hv]
        rfl
      · rw [List.length_map]
        exact small1000 (by omega)
      · refine ⟨_, ns ++ [rest[v.toNat]], rest.eraseIdx v.toNat, rfl, ?_, ?_, ?_, ?_, ?_, ?_, nd_pull hv nd, ?_⟩
        · refine fun b o e nb => ?_
          have e1 := sb2 _ _ (sb _ _ e nb) nb
          rw [upd_ne (ne_of_none e nkH), upd_ne (ne_of_none e nl)]
          exact e1
        · exact (F2.upd nlf.symm ncl).upd nkf.symm nck
        · rw [upd_ne nlk, upd_same, erase_map]
        · rw [upd_same, List.map_append]
          rfl
        · rw [List.length_append, el]
          rfl
        · rw [List.length_eraseIdx_of_lt hv]
          omega
        · intro z hz
          refine hp z ?_
          rw [List.append_assoc, List.singleton_append] at hz
          rcases List.mem_append.mp hz with h | h
          · exact List.mem_append.mpr (.inl h)
          · exact List.mem_append.mpr (.inr ((mem_pull hv).mp h))
    · rintro σ H1 ⟨y, ns, rest, rfl, sb, F1, hl1, hk1, el, er, nd, hp⟩
      exact ⟨_, rfl, q k ns H1 sb F1 nkH hk1 el (List.nodup_append.mp nd).1 fun z hz => hp z (List.mem_append.mpr (.inl hz))⟩
end
end Tw

set_option maxHeartbeats 4000000
namespace Tw
open PySem PySem.Spec PyProof.Rows L2
section
variable {P : Program} {w : World} {K : PySem.W.Frag} {mg : Str → Option Value} {base : Heap}
/-! ### _law_model -/
def sp_model : Sp := fun vs H Q _ => ∃ l : Int, vs = [.int l] ∧ ∀ (d o u b : Addr) (H' : Hp), Same H H' → H d = none → H o = none → H u = none → H b = none → MdX H' d o u b ⟨l, [], [], []⟩ → Q (.ref d) H'
theorem cal__law_model (T : Tp K mg) : Cal P w K mg base 2 "_law_model" sp_model := by
  obtain ⟨fd, F⟩ := f__law_model T
  refine cal_of F (g__law_model T) (b__law_model F) sc__law_model (fun vs H Q E h => ?_) (fun cdv A outer s H vs Q E hr h => ?_)
  · obtain ⟨l, rfl, _⟩ := h
    rfl
  · obtain ⟨l, rfl, q⟩ := h
    refine ⟨_, (pss_one (ps_ret (pe_disp (pps_cons pe_str (pv 0) (pps_cons pe_str (pe_lst pa_nil) (pps_cons pe_str (pe_lst pa_nil) (pps_cons pe_str (pe_lst pa_nil) pps_nil)))) (by rfl) (by rfl) (fun z => by cases z) (by decide)))), ?_⟩
    refine fun d nd => ⟨_, rfl, Nat.zero_le _, fun o no => ⟨Nat.zero_le _, fun u nu => ⟨Nat.zero_le _, fun b nb => ?_⟩⟩⟩
    have s0 := same_upd (o := .dK []) nd
    have s1 := same_upd (o := .lst []) no
    have s2 := same_upd (o := .lst []) nu
    have s3 := same_upd (o := .lst []) nb
    have ed := s3 _ _ (s2 _ _ (s1 _ _ (upd_same (H := H) (a := d) (o := .dK []))))
    have eo := s3 _ _ (s2 _ _ (upd_same (H := upd H d (.dK [])) (a := o) (o := .lst [])))
    have eu := s3 _ _ (upd_same (H := upd (upd H d (.dK [])) o (.lst [])) (a := u) (o := .lst []))
    have eb := upd_same (H := upd (upd (upd H d (.dK [])) o (.lst [])) u (.lst [])) (a := b) (o := .lst [])
    have nod : o ≠ d := (ne_of ed eo (by intro z; cases z)).symm
    have nud : u ≠ d := (ne_of ed eu (by intro z; cases z)).symm
    have nbd : b ≠ d := (ne_of ed eb (by intro z; cases z)).symm
    have nou : o ≠ u := ne_of_none (s1 _ _ upd_same |> fun _ => upd_same) nu
    have nob : o ≠ b := ne_of_none (s2 _ _ upd_same) nb
    have nub : u ≠ b := ne_of_none upd_same nb
    refine ⟨ed, [(kBy, .int l), (kOwn, .ref o), (kWd, .ref u), (kBd, .ref b)], rfl, (by show 4 ≤ 15; decide), ?_⟩
    rw [mk_merge]
    refine q d o u b _ (fun x y e => ?_) nd (s0.free no) ((s0.trans s1).free nu) (((s0.trans s1).trans s2).free nb) ⟨upd_same, by rw [upd_ne nod]; exact eo, ⟨[], by rw [upd_ne nud]; exact eu, .nil⟩, ⟨[], by rw [upd_ne nbd]; exact eb, .nil⟩, nou, nob, nub⟩
    rw [upd_ne (ne_of_none e nd)]
    exact s3 _ _ (s2 _ _ (s1 _ _ (s0 _ _ e)))
/-! ### _law_points -/
def sp_lpoints : Sp := fun vs H Q _ => ∃ (d : Addr) (m : Md), vs = [.ref d] ∧ MdAt H d m ∧ m.own.length ≤ 14 ∧ m.wd.length ≤ 14 ∧ ∀ (q : Addr) (H' : Hp), Same H H' → H q = none → H' q = some (.lst (m.pts.map V.str)) → Q (.ref q) H'
theorem cal__law_points (T : Tp K mg) : Cal P w K mg base 2 "_law_points" sp_lpoints := by
  obtain ⟨fd, F⟩ := f__law_points T
  refine cal_of F (g__law_points T) (b__law_points F) sc__law_points (fun vs H Q E h => ?_) (fun cdv A outer s H vs Q E hr h => ?_)
  · obtain ⟨d, m, rfl, _⟩ := h
    rfl
  · obtain ⟨d, m, rfl, M, l1, l2, q⟩ := h
    have hu := hu_of hr
    obtain ⟨o, u, b, ws, bs, h1, h2, h3, h4, h5, h6, h7⟩ := M.ex
    have hw : ws.length = m.wd.length := by rw [h4.len, List.length_map]
    refine ⟨_, (pss_one (ps_ret (pe_op op_cat (pe_op op_cat (pe_lst (pa_cons pe_str pa_nil)) (pe_dget hu (pv 0) pe_str (fun _ _ => rfl))) (pe_lc (own := [("_law_wind_here", 1)]) (g := gName 1) (tt := tYes) rfl sc__law_points.nd (pi_list (pe_dget hu (pv 0) pe_str (fun _ _ => rfl))) (blkOk_by (N := N__law_points) (sc := defScope s__law_points) (by decide +kernel)) (fun _ _ _ _ _ => (pg_name (i := 1) sc__law_points.nd rfl (.inl rfl))) (fun _ _ _ _ _ => pts_nil) (fun _ _ _ _ _ => (pe_ix (ix_tupK (K := K) rfl) (pv 1) pe_int (fun _ _ => rfl))))))), ?_⟩
    refine ⟨by show 1 ≤ sizeLine; decide, fun l nl => ?_⟩
    have s1 := same_upd (o := .lst [.str "start"]) nl
    refine ⟨_, rfl, d, _, rfl, mk_own (s1 _ _ h1), l, o, _, _, rfl, rfl, upd_same, s1 _ _ h2, ?_, fun r nr => ?_⟩
    · rw [List.length_map]
      exact Nat.le_of_lt (small1000 (by show 1 + _ ≤ 1000; omega))
    · have s2 := same_upd (o := .lst ([.str "start"] ++ m.own.map V.str)) nr
      have sa := s1.trans s2
      refine ⟨_, rfl, d, _, rfl, mk_wd (sa _ _ h1), u, rfl, ⟨_, .inl (.inl (sa _ _ h3))⟩, fun D nD => ?_⟩
      have nDH : H D = none := sa.free nD
      refine lc_list (K := K) (a := u) (xs := ws) (fun i H1 => Same (upd (upd H l (.lst [.str "start"])) r (.lst ([.str "start"] ++ m.own.map V.str))) H1 ∧ H1 D = some (.lst (((m.wd.map (·.en)).take i).map V.str)))
        ⟨same_upd nD, upd_same⟩ (fun i H1 _ ⟨s3, _⟩ => .inl (.inl (s3 _ _ (sa _ _ h3)))) ?_ ?_
      · rintro i x H1 hx ⟨s3, d1⟩
        obtain ⟨t, r', rfl, hr', ht⟩ := h4.at hx
        rw [List.getElem?_map] at hr'
        cases e : m.wd[i]? with
        | none =>
          rw [e] at hr'
          cases hr'
        | some y =>
          rw [e] at hr'
          cases hr'
          have hi : i < m.wd.length := (List.getElem?_eq_some_iff.mp e).1
          refine ⟨rfl, yes_i (iteT ⟨_, rfl, t, _, 0, _, rfl, rfl, .inl (.inl (s3 _ _ (sa _ _ ht))), atI_nat (j := 0) rfl, _, d1, ?_, ?_, ?_⟩)⟩
          · rw [List.length_map, List.length_take]
            exact small1000 (by omega)
          · exact same_put s3 nD
          · rw [upd_same, List.take_add_one, List.getElem?_map, e, List.map_append]
            rfl
      · rintro H1 ⟨s3, d1⟩
        have en : (m.wd.map (·.en)).take ws.length = m.wd.map (·.en) := List.take_of_length_le (by rw [List.length_map]; omega)
        rw [en] at d1
        refine ⟨r, D, _, _, rfl, rfl, s3 _ _ upd_same, d1, ?_, fun x nx => ?_⟩
        · rw [List.length_append, List.length_map, List.length_map, List.length_map]
          exact Nat.le_of_lt (small1000 (by show 1 + _ + _ ≤ 1000; omega))
        · have s4 := same_upd (o := .lst ([.str "start"] ++ m.own.map V.str ++ (m.wd.map (·.en)).map V.str)) nx
          have sb := sa.trans s3
          refine q x _ (sb.trans s4) (sb.free nx) ?_
          rw [upd_same]
          unfold Md.pts
          rw [List.map_cons, List.map_append]
          rfl
/-! ### _law_wind -/
structure WdOk (own : List Str) (x : Wd) : Prop where
  bg : x.bg = "start" ∨ x.bg ∈ own
  lo : 1 ≤ x.lo
  hi : x.lo ≤ x.hi
  top : x.hi ≤ 1000
  la : ∀ i, x.la = some i → 0 ≤ i ∧ i ≤ 1000
def sp_wind : Sp := fun vs H Q _ => ∃ (f c o : Addr) (z : Str) (own : List Str) (far : Int), vs = [.ref f, .str z, .ref o, .int far] ∧ Flow H f c ∧ H o = some (.lst (own.map V.str)) ∧ own.length ≤ 14 ∧ 1 ≤ far ∧ far ≤ 500 ∧
  ∀ (t : Addr) (x : Wd) (H' : Hp), Sb f H H' → Flow H' f c → H t = none → H' t = some (.tup x.row) → x.en = z → WdOk own x → (x.lo ≤ far ∧ x.hi < 2 * far ∧ ∀ i, x.la = some i → i ≤ far) → Q (.ref t) H'
theorem cal__law_wind (T : Tp K mg) : Cal P w K mg base 4 "_law_wind" sp_wind := by
  obtain ⟨fd, F⟩ := f__law_wind T
  refine cal_of F (g__law_wind T) (b__law_wind F) sc__law_wind (fun vs H Q E h => ?_) (fun cdv A outer s H vs Q E hr h => ?_)
  · obtain ⟨f, c, o, z, own, far, rfl, _⟩ := h
    rfl
  · obtain ⟨f, c, o, z, own, far, rfl, FL, ho, hl, f0, f1, q⟩ := h
    refine ⟨_, (pss_cons (ps_set (i := 4) sc__law_wind.nd rfl (.inl rfl) (pe_op op_add pe_int (C8.pe_c (cal__law_draw T) hr (by decide) rfl (pa_cons (pv 0) (pa_cons (pv 3) pa_nil)))))
      (pss_cons (ps_set (i := 5) sc__law_wind.nd rfl (.inl rfl) (pe_op op_add (pv 4) (C8.pe_c (cal__law_draw T) hr (by decide) rfl (pa_cons (pv 0) (pa_cons (pv 3) pa_nil)))))
      (pss_cons (ps_set (i := 6) sc__law_wind.nd rfl (.inl rfl) (pe_ix ix_list (pe_lst (pa_cons pe_int (pa_cons pe_int (pa_cons pe_int (pa_cons (pe_op op_add pe_int (C8.pe_c (cal__law_draw T) hr (by decide) rfl (pa_cons (pv 0) (pa_cons (pv 3) pa_nil)))) (pa_cons pe_non pa_nil)))))) (C8.pe_c (cal__law_draw T) hr (by decide) rfl (pa_cons (pv 0) (pa_cons pe_int pa_nil))) (fun _ _ => rfl)))
      (pss_one (ps_ret (pe_tup (pa_cons (pv 1) (pa_cons (C8.pe_c (cal__law_pick T) hr (by decide) rfl (pa_cons (pv 0) (pa_cons (pe_op op_cat (pe_lst (pa_cons pe_str pa_nil)) (pv 2)) pa_nil))) (pa_cons (pv 4) (pa_cons (pv 5) (pa_cons (pv 6) pa_nil))))))))))), ?_⟩
    have nof := strs_flow FL ho
    obtain ⟨zs, hf⟩ := FL.lst
    obtain ⟨ys, hc⟩ := FL.cells
    refine ⟨_, rfl, _, rfl, f, c, far, rfl, FL, by omega, by omega, fun v1 H1 a1 b1 sb1 F1 => ⟨1, v1, rfl, rfl, ?_⟩⟩
    refine ⟨_, rfl, _, rfl, _, rfl, f, c, far, rfl, F1, by omega, by omega, fun v2 H2 a2 b2 sb2 F2 => ⟨_, _, rfl, rfl, ?_⟩⟩
    refine ⟨_, rfl, _, rfl, f, c, far, rfl, F2, by omega, by omega, fun v3 H3 a3 b3 sb3 F3 => ⟨1, v3, rfl, rfl, (by show 5 ≤ sizeLine; decide), fun l nl => ?_⟩⟩
    obtain ⟨zs3, hf3⟩ := F3.lst
    obtain ⟨ys3, hc3⟩ := F3.cells
    have sl := same_upd (o := .lst [.int 0, .int 0, .int 0, .int (1 + v3), .non]) nl
    have nlf : l ≠ f := (ne_of_none hf3 nl).symm
    refine ⟨_, rfl, f, c, 5, rfl, F3.same sl, by decide, by decide, fun v4 H4 a4 b4 sb4 F4 => ?_⟩
    have sb : Sb f H H4 := ((sb1.trans sb2).trans (sb3.trans (Sb.of sl))).trans sb4
    have hl4 := sb4 _ _ (upd_same (H := H3) (a := l) (o := .lst [.int 0, .int 0, .int 0, .int (1 + v3), .non])) nlf
    obtain ⟨la, ela, hla⟩ : ∃ la : Option Int, ([.int 0, .int 0, .int 0, .int (1 + v3), .non] : List V)[v4.toNat]? = some (oV la) ∧ ∀ i, la = some i → 0 ≤ i ∧ i ≤ far := by
      have hv : v4.toNat < 5 := by omega
      match v4.toNat, hv with
      | 0, _ => exact ⟨some 0, rfl, fun i e => by cases e; omega⟩
      | 1, _ => exact ⟨some 0, rfl, fun i e => by cases e; omega⟩
      | 2, _ => exact ⟨some 0, rfl, fun i e => by cases e; omega⟩
      | 3, _ => exact ⟨some (1 + v3), rfl, fun i e => by cases e; omega⟩
      | 4, _ => exact ⟨none, rfl, fun i e => by cases e⟩
    refine ⟨l, _, v4, oV la, rfl, rfl, .inl (.inl hl4), at_of (j := v4.toNat) (by omega) ela, ?_⟩
    -- the tuple
    have ho4 := sb _ _ ho nof
    refine ⟨_, rfl, _, rfl, (by show 1 ≤ sizeLine; decide), fun p np => ?_⟩
    have sp1 := same_upd (o := .lst [.str "start"]) np
    refine ⟨_, rfl, p, o, _, _, rfl, rfl, upd_same, sp1 _ _ ho4, ?_, fun r nr => ?_⟩
    · rw [List.length_map]
      exact Nat.le_of_lt (small1000 (by show 1 + _ ≤ 1000; omega))
    · have sp2 := same_upd (o := .lst ([.str "start"] ++ own.map V.str)) nr
      have F5 := (F4.same sp1).same sp2
      have er : (upd (upd H4 p (.lst [.str "start"])) r (.lst ([.str "start"] ++ own.map V.str))) r = some (.lst ((("start" : Str) :: own).map V.str)) := upd_same
      refine ⟨f, c, r, _, rfl, F5, er, strs_flow F5 er, by rw [List.length_map]; exact Nat.succ_pos _, by rw [List.length_map]; show own.length + 1 ≤ 1000; omega, fun v H6 hv sb6 F6 => ?_⟩
      obtain ⟨g, hg, rfl⟩ := List.mem_map.mp hv
      refine ⟨_, rfl, _, rfl, _, rfl, (by show 5 ≤ sizeLine; decide), fun t nt => ?_⟩
      have sbA : Sb f H H6 := (sb.trans (Sb.of (sp1.trans sp2))).trans sb6
      have st := same_upd (o := .tup (Wd.row ⟨z, g, 1 + v1, 1 + v1 + v2, la⟩)) nt
      have ntH : H t = none := by
        cases e : H t with
        | none => rfl
        | some y =>
          have ntf : t ≠ f := fun z => by
            obtain ⟨zs6, hf6⟩ := F6.lst
            rw [z, hf6] at nt
            cases nt
          rw [sbA _ _ e ntf] at nt
          cases nt
      exact q t ⟨z, g, 1 + v1, 1 + v1 + v2, la⟩ _ (sbA.trans (Sb.of st)) (F6.same st) ntH upd_same rfl ⟨by
        rcases List.mem_cons.mp hg with e | e
        · exact .inl e
        · exact .inr e, by show 1 ≤ 1 + v1; omega, by show 1 + v1 ≤ 1 + v1 + v2; omega, by show 1 + v1 + v2 ≤ 1000; omega, fun i e => by
          have := hla i e
          omega⟩ ⟨by show 1 + v1 ≤ far; omega, by show 1 + v1 + v2 < 2 * far; omega, fun i e => (hla i e).2⟩
/-! ### _law_bond -/
structure BdOk (pts : List Str) (x : Bd) : Prop where
  one : x.one ∈ pts
  oth : x.oth ∈ pts
  ne : ¬ x.one = x.oth
  b : BOk x.bot x.top
def sp_bond : Sp := fun vs H Q _ => ∃ (f c o : Addr) (pts : List Str) (far : Int), vs = [.ref f, .ref o, .int far] ∧ Flow H f c ∧ H o = some (.lst (pts.map V.str)) ∧ 2 ≤ pts.length ∧ pts.length ≤ 100 ∧ pts.Nodup ∧ 1 ≤ far ∧ far ≤ 250 ∧
  ∀ (t : Addr) (x : Bd) (H' : Hp), Sb f H H' → Flow H' f c → H t = none → H' t = some (.tup x.row) → BdOk pts x → Q (.ref t) H'
theorem bok_lo {a : Int} (h1 : -1000 ≤ a) (h2 : a ≤ 1000) : BOk (some a) none := by
  refine ⟨fun z => (nomatch z.1), fun x e => ?_, fun x e => (nomatch e), fun x y _ e => (nomatch e)⟩
  cases e
  exact ⟨h1, h2⟩
theorem bok_hi {a : Int} (h1 : -1000 ≤ a) (h2 : a ≤ 1000) : BOk none (some a) := by
  refine ⟨fun z => (nomatch z.2), fun x e => (nomatch e), fun x e => ?_, fun x y e _ => (nomatch e)⟩
  cases e
  exact ⟨h1, h2⟩
theorem bok_two {a b : Int} (h1 : -1000 ≤ a) (h2 : a ≤ 1000) (h3 : -1000 ≤ b) (h4 : b ≤ 1000) (h5 : a ≤ b) : BOk (some a) (some b) := by
  refine ⟨fun z => (nomatch z.1), fun x e => ?_, fun x e => ?_, fun x y e e2 => ?_⟩
  · cases e
    exact ⟨h1, h2⟩
  · cases e
    exact ⟨h3, h4⟩
  · cases e
    cases e2
    exact h5
theorem sb_free {f c t : Addr} {H H' : Hp} (sb : Sb f H H') (F : Flow H' f c) (nt : H' t = none) : H t = none := by
  cases e : H t with
  | none => rfl
  | some y =>
    have ntf : t ≠ f := fun z => by
      obtain ⟨zs, hf⟩ := F.lst
      rw [z, hf] at nt
      cases nt
    rw [sb _ _ e ntf] at nt
    cases nt
theorem cal__law_bond (T : Tp K mg) : Cal P w K mg base 4 "_law_bond" sp_bond := by
  obtain ⟨fd, F⟩ := f__law_bond T
  refine cal_of F (g__law_bond T) (b__law_bond F) sc__law_bond (fun vs H Q E h => ?_) (fun cdv A outer s H vs Q E hr h => ?_)
  · obtain ⟨f, c, o, pts, far, rfl, _⟩ := h
    rfl
  · obtain ⟨f, c, o, pts, far, rfl, FL, ho, p2, p3, nd, f0, f1, q⟩ := h
    refine ⟨_, (pss_cons (ps_set (i := 3) sc__law_bond.nd rfl (.inl rfl) (pe_callTy call_list_of (by rfl) (z_list T) bb_list (pa_cons (pv 1) pa_nil)))
      (pss_cons (ps_set (i := 4) sc__law_bond.nd rfl (.inl rfl) (pe_bm PySem.F.plainAttrs_list PySem.F.slot_list_pop PySem.F.type_list_pop mt_popAt (pv 3) (pa_cons (C8.pe_c (cal__law_draw T) hr (by decide) rfl (pa_cons (pv 0) (pa_cons (pe_callB call_len_seq (by rfl) (z_len T) bb_len (pa_cons (pv 3) pa_nil)) pa_nil))) pa_nil)))
      (pss_cons (ps_set (i := 5) sc__law_bond.nd rfl (.inl rfl) (C8.pe_c (cal__law_pick T) hr (by decide) rfl (pa_cons (pv 0) (pa_cons (pv 3) pa_nil))))
      (pss_cons (ps_set (i := 6) sc__law_bond.nd rfl (.inl rfl) (pe_op op_sub (C8.pe_c (cal__law_draw T) hr (by decide) rfl (pa_cons (pv 0) (pa_cons (pe_op op_add (pe_op op_mul pe_int (pv 2)) pe_int) pa_nil))) (pv 2)))
      (pss_cons (ps_set (i := 7) sc__law_bond.nd rfl (.inl rfl) (pe_op op_add (pv 6) (C8.pe_c (cal__law_draw T) hr (by decide) rfl (pa_cons (pv 0) (pa_cons (pe_op op_add (pe_op op_mul pe_int (pv 2)) pe_int) pa_nil)))))
      (pss_cons (ps_set (i := 8) sc__law_bond.nd rfl (.inl rfl) (C8.pe_c (cal__law_draw T) hr (by decide) rfl (pa_cons (pv 0) (pa_cons pe_int pa_nil))))
      (pss_cons (ps_if (pt_cmpR op_eq (pv 8) pe_int (nomark _)) (pss_one (ps_ret (pe_tup (pa_cons (pv 4) (pa_cons (pv 5) (pa_cons (pv 6) (pa_cons pe_non pa_nil))))))) pss_nil)
      (pss_cons (ps_if (pt_cmpR op_eq (pv 8) pe_int (nomark _)) (pss_one (ps_ret (pe_tup (pa_cons (pv 4) (pa_cons (pv 5) (pa_cons pe_non (pa_cons (pv 7) pa_nil))))))) pss_nil)
      (pss_one (ps_ret (pe_tup (pa_cons (pv 4) (pa_cons (pv 5) (pa_cons (pv 6) (pa_cons (pv 7) pa_nil))))))))))))))), ?_⟩
    refine ⟨_, rfl, o, _, rfl, .inl (.inl (.inl ho)), fun l nl => ?_⟩
    have s1 := same_upd (o := .lst (pts.map V.str)) nl
    have F1 := FL.same s1
    obtain ⟨zs, hf⟩ := FL.lst
    obtain ⟨ys, hc⟩ := FL.cells
    have nlf : l ≠ f := (ne_of_none hf nl).symm
    have ncl : c ≠ l := ne_of_none hc nl
    refine ⟨_, rfl, .inl ⟨rfl, _, .inl (.inl upd_same)⟩, _, rfl, _, rfl, l, _, rfl, .inl (.inl (.inl upd_same)), f, c, _, rfl, F1, by rw [List.length_map]; omega, by rw [List.length_map]; omega, fun v H2 v0 v1 sb2 F2 => ?_⟩
    rw [List.length_map] at v1
    have hv : v.toNat < pts.length := by omega
    have hl2 := sb2 _ _ (upd_same (H := H) (a := l) (o := .lst (pts.map V.str))) nlf
    refine ⟨l, _, v, v.toNat, .str pts[v.toNat], rfl, rfl, hl2, by omega, by omega, ?_, ?_, ?_⟩
    · unfold seqIndex?
      rw [if_neg (show ¬ v < 0 by omega), if_pos (by simp only [Bool.and_eq_true, decide_eq_true_eq, List.length_map]; omega)]
    · rw [List.getElem?_map, List.getElem?_eq_getElem hv]
      rfl
    · have F3 : Flow (upd H2 l (.lst ((pts.map V.str).eraseIdx v.toNat))) f c := F2.upd nlf.symm ncl
      have hl3 : (upd H2 l (.lst ((pts.map V.str).eraseIdx v.toNat))) l = some (.lst ((pts.eraseIdx v.toNat).map V.str)) := by rw [upd_same, erase_map]
      have hlen : ((pts.eraseIdx v.toNat).map V.str).length = pts.length - 1 := by rw [List.length_map, List.length_eraseIdx_of_lt hv]
      have sb3 : Sb f H (upd H2 l (.lst ((pts.map V.str).eraseIdx v.toNat))) := fun b x e nb => by
        rw [upd_ne (ne_of_none e nl)]
        exact sb2 _ _ (s1 _ _ e) nb
      refine ⟨_, rfl, _, rfl, f, c, l, _, rfl, F3, hl3, nlf, by omega, by omega, fun y H4 hy sb4 F4 => ?_⟩
      obtain ⟨g, hg, rfl⟩ := List.mem_map.mp hy
      have nd2 : (pts[v.toNat] :: pts.eraseIdx v.toNat).Nodup := (pull_perm pts v.toNat hv).nodup_iff.mpr nd
      have hgp : g ∈ pts := (pull_perm pts v.toNat hv).mem_iff.mp (List.mem_cons_of_mem _ hg)
      have hne : ¬ pts[v.toNat] = g := fun e => (List.nodup_cons.mp nd2).1 (e ▸ hg)
      have sbA := sb3.trans sb4
      refine ⟨_, rfl, _, rfl, 3, far, rfl, rfl, .inl ⟨by decide, by decide⟩, _, 1, rfl, rfl, f, c, _, rfl, F4, by omega, by omega, fun v5 H5 a5 b5 sb5 F5 => ⟨_, rfl, _, _, rfl, rfl, ?_⟩⟩
      refine ⟨_, rfl, _, rfl, _, rfl, 2, far, rfl, rfl, .inl ⟨by decide, by decide⟩, _, 1, rfl, rfl, f, c, _, rfl, F5, by omega, by omega, fun v6 H6 a6 b6 sb6 F6 => ⟨_, _, rfl, rfl, ?_⟩⟩
      refine ⟨_, rfl, f, c, 5, rfl, F6, by decide, by decide, fun v7 H7 a7 b7 sb7 F7 => ?_⟩
      have sbB := ((sbA.trans sb5).trans sb6).trans sb7
      have hp : pts[v.toNat] ∈ pts := List.getElem_mem hv
      have done : ∀ (t : Addr) (bo to : Option Int), BOk bo to → H7 t = none → Q (.ref t) (upd H7 t (.tup [.str pts[v.toNat], .str g, oV bo, oV to])) := fun t bo to hb nt =>
        q t ⟨pts[v.toNat], g, bo, to⟩ _ (sbB.trans (Sb.of (same_upd nt))) (F7.same (same_upd nt)) (sb_free sbB F7 nt) upd_same ⟨hp, hgp, hne, hb⟩
      refine ⟨_, rfl, rfl, _, rfl, ite2 (fun e => ?_) (fun e => ?_)⟩
      · refine ⟨_, rfl, _, rfl, _, rfl, (by show 4 ≤ sizeLine; decide), fun t nt => done t (some (v5 - far)) none (bok_lo (by omega) (by omega)) nt⟩
      · refine ⟨_, rfl, rfl, _, rfl, ite2 (fun e => ?_) (fun e => ?_)⟩
        · refine ⟨_, rfl, _, rfl, _, rfl, (by show 4 ≤ sizeLine; decide), fun t nt => done t none (some (v5 - far + v6)) (bok_hi (by omega) (by omega)) nt⟩
        · refine ⟨_, rfl, _, rfl, _, rfl, _, rfl, (by show 4 ≤ sizeLine; decide), fun t nt => done t (some (v5 - far)) (some (v5 - far + v6)) (bok_two (by omega) (by omega) (by omega) (by omega) (by omega)) nt⟩
end
end Tw

set_option maxHeartbeats 4000000
namespace Tw
open PySem PySem.Spec PyProof.Rows L2
theorem cut_pre (ns : List Str) {a : Int} (h : 0 ≤ a) : cutV (ns.map V.str) none (some a) = (ns.take a.toNat).map V.str := by
  obtain ⟨k, rfl⟩ : ∃ k : Nat, a = k := ⟨a.toNat, by omega⟩
  unfold cutV
  rw [HT.sIx_none, HT.sIx_nat, List.drop_zero, Nat.sub_zero, Int.toNat_natCast, List.map_take]
  by_cases hk : k ≤ (ns.map V.str).length
  · rw [Nat.min_eq_left hk]
  · have past := Nat.le_of_lt (Nat.not_le.mp hk)
    rw [Nat.min_eq_right past, List.take_length]
    exact (List.take_of_length_le past).symm
theorem cut_suf (ns : List Str) {a : Int} (h : 0 ≤ a) : cutV (ns.map V.str) (some a) none = (ns.drop a.toNat).map V.str := by
  obtain ⟨k, rfl⟩ : ∃ k : Nat, a = k := ⟨a.toNat, by omega⟩
  unfold cutV
  rw [HT.sIx_none, HT.sIx_nat, Int.toNat_natCast, List.map_drop]
  by_cases hk : k ≤ (ns.map V.str).length
  · rw [Nat.min_eq_left hk]
    exact List.take_of_length_le (by rw [List.length_drop]; exact Nat.le_refl _)
  · have past := Nat.le_of_lt (Nat.not_le.mp hk)
    rw [Nat.min_eq_right past, List.drop_length, List.take_nil]
    exact (List.drop_of_length_le past).symm
/-- what a drawn picture keeps -/
structure MdOk (m : Md) : Prop where
  last : 1 ≤ m.last ∧ m.last ≤ 1000
  nd : (m.own ++ m.wd.map (·.en)).Nodup
  pool : ∀ z ∈ m.own ++ m.wd.map (·.en), z ∈ pool
  wd : ∀ x ∈ m.wd, WdOk m.own x
  bd : ∀ x ∈ m.bd, BdOk m.pts x
  len : m.own.length ≤ 10 ∧ m.wd.length ≤ 4 ∧ m.bd.length ≤ 40
def Near (far : Int) (x : Wd) : Prop := x.lo ≤ far ∧ x.hi < 2 * far ∧ ∀ i, x.la = some i → i ≤ far
theorem pts_nd {own : List Str} {ends : List Str} (nd : (own ++ ends).Nodup) (hp : ∀ z ∈ own ++ ends, z ∈ pool) : (("start" : Str) :: (own ++ ends)).Nodup :=
  List.nodup_cons.mpr ⟨fun h => (pool_nm (hp _ h)).2 rfl, nd⟩
section
variable {P : Program} {w : World} {K : PySem.W.Frag} {mg : Str → Option Value} {base : Heap}
def sp_drawn : Sp := fun vs H Q _ => ∃ (f c : Addr) (a b e far last : Int), vs = [.ref f, .int a, .int b, .int e, .int far, .int last] ∧ Flow H f c ∧ 1 ≤ a ∧ a ≤ 10 ∧ 0 ≤ b ∧ b ≤ 4 ∧ 0 ≤ e ∧ e ≤ 40 ∧ 1 ≤ far ∧ far ≤ 500 ∧ (e = 0 ∨ far ≤ 250) ∧ 1 ≤ last ∧ last ≤ 1000 ∧
  ∀ (d : Addr) (m : Md) (H' : Hp), Sb f H H' → Flow H' f c → H d = none → MdAt H' d m → MdOk m → m.last = last → m.own.length = a.toNat → m.wd.length = b.toNat → m.bd.length = e.toNat → (∀ x ∈ m.wd, Near far x) → Q (.ref d) H'
theorem cal__law_drawn (T : Tp K mg) : Cal P w K mg base 5 "_law_drawn" sp_drawn := by
  obtain ⟨fd, F⟩ := f__law_drawn T
  refine cal_of F (g__law_drawn T) (b__law_drawn F) sc__law_drawn (fun vs H Q E h => ?_) (fun cdv A outer s H vs Q E hr h => ?_)
  · obtain ⟨f, c, a, b, e, far, last, rfl, _⟩ := h
    rfl
  · obtain ⟨f, c, a, b, e, far, last, rfl, FL, a1, a2, b1, b2, e1, e2, far1, far2, far3, last1, last2, q⟩ := h
    have hu := hu_of hr
    obtain ⟨zs, hf⟩ := FL.lst
    obtain ⟨ys, hc⟩ := FL.cells
    refine ⟨_, (pss_cons (ps_set (i := 6) sc__law_drawn.nd rfl (.inl rfl) (C8.pe_c (cal__law_model T) hr (by decide) rfl (pa_cons (pv 5) pa_nil)))
      (pss_cons (ps_set (i := 7) sc__law_drawn.nd rfl (.inl rfl) (C8.pe_c (cal__law_names T) hr (by decide) rfl (pa_cons (pv 0) (pa_cons (pe_op op_add (pv 1) (pv 2)) pa_nil))))
      (pss_cons (ps_dput hu (pv 6) pe_str (pe_slice sl_list (pv 7) po_none (po_some (pv 1))) rfl)
      (pss_cons (ps_for PassesOwn.never rfl (pi_list (pe_slice sl_list (pv 7) (po_some (pv 1)) po_none)) (pg_name (i := 8) sc__law_drawn.nd rfl (.inl rfl))
        (pss_one (ps_expr (pe_bm PySem.F.plainAttrs_list PySem.F.slot_list_append PySem.F.type_list_append mt_append (pe_dget hu (pv 6) pe_str (fun _ _ => rfl)) (pa_cons (C8.pe_c (cal__law_wind T) hr (by decide) rfl (pa_cons (pv 0) (pa_cons (pv 8) (pa_cons (pe_dget hu (pv 6) pe_str (fun _ _ => rfl)) (pa_cons (pv 4) pa_nil))))) pa_nil)))))
      (pss_cons (ps_for PassesOwn.never rfl (pi_range1 rfl (z_range T) (pa_cons (pv 3) pa_nil)) (pg_name (i := 9) sc__law_drawn.nd rfl (.inl rfl))
        (pss_one (ps_expr (pe_bm PySem.F.plainAttrs_list PySem.F.slot_list_append PySem.F.type_list_append mt_append (pe_dget hu (pv 6) pe_str (fun _ _ => rfl)) (pa_cons (C8.pe_c (cal__law_bond T) hr (by decide) rfl (pa_cons (pv 0) (pa_cons (C8.pe_c (cal__law_points T) hr (by decide) rfl (pa_cons (pv 6) pa_nil)) (pa_cons (pv 4) pa_nil)))) pa_nil)))))
      (pss_one (ps_ret (pv 6)))))))), ?_⟩
    refine ⟨_, rfl, last, rfl, fun d o0 u b' H1 s1 nd no0 nu nb' M1 => ?_⟩
    have F1 := FL.same s1
    refine ⟨_, rfl, _, rfl, _, rfl, _, _, rfl, rfl, f, c, a + b, rfl, F1, by omega, by omega, fun g ns H2 sb2 F2 ng hg len nns hp => ?_⟩
    have sbH2 : Sb f H H2 := (Sb.of s1).trans sb2
    have M2 := M1.sb F1 sb2
    -- m['own'] = names[:own]
    refine ⟨_, rfl, _, rfl, a, rfl, g, _, rfl, .inl (.inl hg), fun o no => ?_⟩
    rw [cut_pre ns (by omega)]
    have s3 := same_upd (o := .lst ((ns.take a.toNat).map V.str)) no
    have M3 := M2.same s3
    have F3 := F2.same s3
    have noH : H o = none := sb_free sbH2 F2 no
    refine ⟨_, rfl, d, _, rfl, DPut.k (k := kOwn) M3.dk (by show 4 < sizeLine; decide), ?_⟩
    rw [mk_putOwn]
    have hdo : ∀ x y, (upd H2 o (.lst ((ns.take a.toNat).map V.str))) x = some y → x ≠ d → (upd (upd H2 o (.lst ((ns.take a.toNat).map V.str))) d (.dK (mk last o u b'))) x = some y := fun x y ex nx => by
      rw [upd_ne nx]
      exact ex
    obtain ⟨ws3, hw3, _⟩ := M2.wd
    obtain ⟨bs3, hb3, _⟩ := M2.bd
    have nod : o ≠ d := (ne_of_none M2.dk no).symm
    have nou : o ≠ u := (ne_of_none hw3 no).symm
    have nob : o ≠ b' := (ne_of_none hb3 no).symm
    have nfd : f ≠ d := ne_of_none hf nd
    have ncd : c ≠ d := ne_of_none hc nd
    have nfu : f ≠ u := ne_of_none hf nu
    have ncu : c ≠ u := ne_of_none hc nu
    have nfb : f ≠ b' := ne_of_none hf nb'
    have ncb : c ≠ b' := ne_of_none hc nb'
    have M4 : MdX (upd (upd H2 o (.lst ((ns.take a.toNat).map V.str))) d (.dK (mk last o u b'))) d o u b' ⟨last, ns.take a.toNat, [], []⟩ := by
      have dd := M3.dk
      refine ⟨upd_same, hdo _ _ upd_same nod, ⟨ws3, hdo _ _ (s3 _ _ hw3) (ne_of (s3 _ _ hw3) dd (by intro z; cases z)), ?_⟩, ⟨bs3, hdo _ _ (s3 _ _ hb3) (ne_of (s3 _ _ hb3) dd (by intro z; cases z)), ?_⟩, nou, nob, M3.nwb⟩
      · obtain ⟨ws, h1, h2⟩ := M2.wd
        rw [hw3] at h1
        cases h1
        have e0 := h2.len
        have e1 : ws3 = [] := List.length_eq_zero_iff.mp e0
        rw [e1]
        exact .nil
      · obtain ⟨ws, h1, h2⟩ := M2.bd
        rw [hb3] at h1
        cases h1
        have e0 := h2.len
        have e1 : bs3 = [] := List.length_eq_zero_iff.mp e0
        rw [e1]
        exact .nil
    have F4 : Flow (upd (upd H2 o (.lst ((ns.take a.toNat).map V.str))) d (.dK (mk last o u b'))) f c := F3.upd nfd ncd
    have sbH4 : Sb f H (upd (upd H2 o (.lst ((ns.take a.toNat).map V.str))) d (.dK (mk last o u b'))) := fun x y ex nx => hdo _ _ (s3 _ _ (sbH2 _ _ ex nx)) (ne_of_none ex nd)
    have hg4 : (upd (upd H2 o (.lst ((ns.take a.toNat).map V.str))) d (.dK (mk last o u b'))) g = some (.lst (ns.map V.str)) := hdo _ _ (s3 _ _ hg) (ne_of (s3 _ _ hg) M3.dk (by intro z; cases z))
    -- for end in names[own:]
    refine ⟨_, rfl, _, rfl, a, rfl, g, _, rfl, .inl (.inl hg4), fun r nr => ?_⟩
    rw [cut_suf ns (by omega)]
    have s5 := same_upd (o := .lst ((ns.drop a.toNat).map V.str)) nr
    have M5 := M4.same s5
    have F5 := F4.same s5
    obtain ⟨ws4, hw4, _⟩ := M4.wd
    have nru : r ≠ u := (ne_of_none hw4 nr).symm
    have elen : (ns.take a.toNat).length = a.toNat := by
      rw [List.length_take]
      omega
    have blen : (ns.drop a.toNat).length = b.toNat := by
      rw [List.length_drop]
      omega
    have sbH5 := sbH4.trans (Sb.of s5)
    have spl : ns.take a.toNat ++ ns.drop a.toNat = ns := List.take_append_drop _ _
    refine ⟨r, rfl, ⟨_, .inl (.inl upd_same)⟩, for_list (K := K) (a := r) (xs := (ns.drop a.toNat).map V.str) (fun i σ H6 => ∃ (y : Option V) (ds : List Wd), σ = [some (.ref f), some (.int a), some (.int b), some (.int e), some (.int far), some (.int last), some (.ref d), some (.ref g), y, none] ∧
        Sb f H H6 ∧ Flow H6 f c ∧ MdX H6 d o u b' ⟨last, ns.take a.toNat, ds, []⟩ ∧ H6 r = some (.lst ((ns.drop a.toNat).map V.str)) ∧ ds.map (·.en) = (ns.drop a.toNat).take i ∧ ∀ x ∈ ds, WdOk (ns.take a.toNat) x ∧ Near far x)
      ⟨none, [], rfl, sbH5, F5, M5, upd_same, rfl, fun x hx => nomatch hx⟩ (fun i σ H6 _ ⟨_, _, _, _, _, _, h, _⟩ => .inl (.inl h)) ?_ ?_⟩
    · rintro i x σ H6 hx ⟨y, ds, rfl, sb6, F6, M6, hr6, eds, hds⟩
      rw [List.getElem?_map] at hx
      cases ez : (ns.drop a.toNat)[i]? with
      | none =>
        rw [ez] at hx
        cases hx
      | some z =>
        rw [ez] at hx
        cases hx
        obtain ⟨ws6, hw6, rw6⟩ := M6.wd
        refine ⟨_, rfl, d, _, rfl, mk_wd M6.dk, .inl ⟨rfl, _, .inl (.inl hw6)⟩, _, rfl, _, rfl, _, rfl, d, _, rfl, mk_own M6.dk, _, rfl, f, c, o, z, _, far, rfl, F6, M6.own, by show (ns.take a.toNat).length ≤ 14; omega, far1, far2, fun t x H7 sb7 F7 nt ht ex ok near => ?_⟩
        have M7 := M6.sb F6 sb7
        obtain ⟨ws7, hw7, rw7⟩ := M7.wd
        refine ⟨u, ws7, _, rfl, rfl, hw7, ?_, ?_⟩
        · rw [rw7.len, List.length_map]
          have hl : ds.length = i := by
            have := congrArg List.length eds
            rw [List.length_map, List.length_take] at this
            have hi : i < (ns.drop a.toNat).length := (List.getElem?_eq_some_iff.mp ez).1
            omega
          have hi : i < (ns.drop a.toNat).length := (List.getElem?_eq_some_iff.mp ez).1
          show ds.length < sizeLine
          exact small1000 (by omega)
        · refine ⟨_, ds ++ [x], rfl, ?_, F7.upd nfu ncu, M7.addW hw7 rw7 ht, ?_, ?_, ?_⟩
          · exact fun p v ep np => by
              rw [upd_ne (ne_of_none ep nu)]
              exact sb7 _ _ (sb6 _ _ ep np) np
          · rw [upd_ne nru]
            exact sb7 _ _ hr6 (strs_flow F6 hr6)
          · rw [List.map_append, eds, List.take_add_one, ez]
            show _ ++ [x.en] = _ ++ [z]
            rw [ex]
          · intro v hv
            rcases List.mem_append.mp hv with h | h
            · exact hds v h
            · have e : v = x := List.mem_singleton.mp h
              rw [e]
              exact ⟨ok, near⟩
    · rintro σ H6 ⟨y, ds, rfl, sb6, F6, M6, hr6, eds, hds⟩
      have eds : ds.map (·.en) = ns.drop a.toNat := by
        rw [eds]
        exact List.take_of_length_le (by rw [List.length_map]; exact Nat.le_refl _)
      have dlen : ds.length = b.toNat := by
        have := congrArg List.length eds
        rw [List.length_map] at this
        omega
      have pnd : (("start" : Str) :: (ns.take a.toNat ++ ds.map (·.en))).Nodup := pts_nd (by rw [eds, spl]; exact nns) (by rw [eds, spl]; exact hp)
      -- the ties
      refine ⟨_, rfl, e, rfl, by omega, by omega, ?_⟩
      refine for_range (lo := 0) (n := e.toNat) (fun i σ H7 => ∃ (y9 : Option V) (es : List Bd), σ = [some (.ref f), some (.int a), some (.int b), some (.int e), some (.int far), some (.int last), some (.ref d), some (.ref g), y, y9] ∧
        Sb f H H7 ∧ Flow H7 f c ∧ MdX H7 d o u b' ⟨last, ns.take a.toNat, ds, es⟩ ∧ es.length = i ∧ ∀ x ∈ es, BdOk (("start" : Str) :: (ns.take a.toNat ++ ds.map (·.en))) x) ⟨none, [], rfl, sb6, F6, M6, rfl, fun x hx => nomatch hx⟩ ?_ ?_
      · rintro i σ H7 hi ⟨y9, es, rfl, sb7, F7, M7, el, hes⟩
        obtain ⟨bs7, hb7, rb7⟩ := M7.bd
        refine ⟨_, rfl, d, _, rfl, mk_bd M7.dk, .inl ⟨rfl, _, .inl (.inl hb7)⟩, _, rfl, _, rfl, d, _, rfl, M7.at, by show (ns.take a.toNat).length ≤ 14; omega, by show ds.length ≤ 14; omega, fun pl H8 s8 npl hpl => ?_⟩
        have F8 := F7.same s8
        refine ⟨_, rfl, f, c, pl, _, far, rfl, F8, hpl, ?_, ?_, pnd, far1, by omega, fun t x H9 sb9 F9 nt ht ok => ?_⟩
        · show 2 ≤ (("start" : Str) :: (ns.take a.toNat ++ ds.map (·.en))).length
          rw [List.length_cons, List.length_append, elen]
          omega
        · show (("start" : Str) :: (ns.take a.toNat ++ ds.map (·.en))).length ≤ 100
          rw [List.length_cons, List.length_append, elen, List.length_map]
          omega
        · have M9 := (M7.same s8).sb F8 sb9
          obtain ⟨bs9, hb9, rb9⟩ := M9.bd
          refine ⟨b', bs9, _, rfl, rfl, hb9, ?_, _, es ++ [x], rfl, ?_, F9.upd nfb ncb, M9.addB hb9 rb9 ht, by rw [List.length_append, el]; rfl, ?_⟩
          · rw [rb9.len, List.length_map]
            show es.length < sizeLine
            exact small1000 (by omega)
          · exact fun p v ep np => by
              rw [upd_ne (ne_of_none ep nb')]
              exact sb9 _ _ (s8 _ _ (sb7 _ _ ep np)) np
          · intro v hv
            rcases List.mem_append.mp hv with h | h
            · exact hes v h
            · have e : v = x := List.mem_singleton.mp h
              rw [e]
              exact ok
      · rintro σ H7 ⟨y9, es, rfl, sb7, F7, M7, el, hes⟩
        refine ⟨_, rfl, q d ⟨last, ns.take a.toNat, ds, es⟩ H7 sb7 F7 nd M7.at ⟨⟨last1, last2⟩, ?_, ?_, fun x hx => (hds x hx).1, hes, ?_⟩ rfl elen dlen el fun x hx => (hds x hx).2⟩
        · show (ns.take a.toNat ++ ds.map (·.en)).Nodup
          rw [eds, spl]
          exact nns
        · show ∀ z ∈ ns.take a.toNat ++ ds.map (·.en), z ∈ pool
          rw [eds, spl]
          exact hp
        · show (ns.take a.toNat).length ≤ 10 ∧ ds.length ≤ 4 ∧ es.length ≤ 40
          omega
end
end Tw

set_option maxHeartbeats 4000000
namespace Tw
open PySem PySem.Spec PyProof.Rows L2
theorem nd_take {α : Type} {l : List α} {i : Nat} {z : α} (nd : l.Nodup) (e : l[i]? = some z) : ¬ z ∈ l.take i := by
  have h : (l.take (i + 1)).Nodup := List.Sublist.nodup (List.take_sublist _ _) nd
  rw [List.take_add_one, e] at h
  intro m
  exact (List.nodup_append.mp h).2.2 z m z (List.mem_singleton.mpr rfl) rfl
theorem row_of {xs : List V} {H : Hp} {α : Type} {f : α → List V} {l : List α} {i : Nat} {x : V} (R : Rows H xs (l.map f)) (hx : xs[i]? = some x) : ∃ t y, x = .ref t ∧ l[i]? = some y ∧ H t = some (.tup (f y)) := by
  obtain ⟨t, r, e, hr, ht⟩ := R.at hx
  rw [List.getElem?_map] at hr
  cases ey : l[i]? with
  | none =>
    rw [ey] at hr
    cases hr
  | some y =>
    rw [ey] at hr
    cases hr
    exact ⟨t, y, e, rfl, ht⟩
section
variable {P : Program} {w : World} {K : PySem.W.Frag} {mg : Str → Option Value} {base : Heap}
def sp_web (K : PySem.W.Frag) : Sp := fun vs H Q _ => ∃ (d : Addr) (m : Md), vs = [.ref d] ∧ MdAt H d m ∧ MdOk m ∧ ∀ (p : Addr) (H' : Hp), Same H H' → H p = none → WebAt (CW K) H' p m → Q (.ref p) H'
theorem cal__law_web (T : Tp K mg) : Cal P w K mg base 7 "_law_web" (sp_web K) := by
  obtain ⟨fd, F⟩ := f__law_web T
  refine cal_of F (g__law_web T) (b__law_web F) sc__law_web (fun vs H Q E h => ?_) (fun cdv A outer s H vs Q E hr h => ?_)
  · obtain ⟨d, m, rfl, _⟩ := h
    rfl
  · obtain ⟨d, m, rfl, M, ok, q⟩ := h
    have hu := hu_of hr
    obtain ⟨o, u, b, ws, bs, h1, h2, h3, h4, h5, h6, h7⟩ := M.ex
    have hlen := ok.len
    have ndo : m.own.Nodup := (List.nodup_append.mp ok.nd).1
    have nde : (m.wd.map (·.en)).Nodup := (List.nodup_append.mp ok.nd).2.1
    refine ⟨_, (pss_cons (ps_set (i := 1) sc__law_web.nd rfl (.inl rfl) (C8.pe_mk (mak_Web T) hr (by decide) rfl (pa_cons (pe_dget hu (pv 0) pe_str (fun _ _ => rfl)) pa_nil)))
      (pss_cons (ps_for PassesOwn.never rfl (pi_list (pe_dget hu (pv 0) pe_str (fun _ _ => rfl))) (pg_name (i := 2) sc__law_web.nd rfl (.inl rfl))
        (pss_one (ps_set (i := 1) sc__law_web.nd rfl (.inl rfl) (C8.pe_mt (met_Web_with_moment T) hr (by decide) (pv 1) (pa_cons (pv 2) pa_nil)))))
      (pss_cons (ps_for PassesOwn.never rfl (pi_list (pe_dget hu (pv 0) pe_str (fun _ _ => rfl))) (pg_tup rfl (pgs_cons (pg_name (i := 3) sc__law_web.nd rfl (.inl rfl)) (pgs_cons (pg_name (i := 4) sc__law_web.nd rfl (.inl rfl)) (pgs_cons (pg_name (i := 5) sc__law_web.nd rfl (.inl rfl)) (pgs_cons (pg_name (i := 6) sc__law_web.nd rfl (.inl rfl)) (pgs_cons (pg_name (i := 7) sc__law_web.nd rfl (.inl rfl)) pgs_nil))))))
        (pss_one (ps_set (i := 1) sc__law_web.nd rfl (.inl rfl) (pe_mg0 (met_Web_with_span T) hr (by decide) (pv 1) (pa_cons (pv 3) (pa_cons (pv 4) (pa_cons (pv 5) (pa_cons (pv 6) pa_nil)))) (pk_cons (pv 7) pk_nil)))))
      (pss_cons (ps_for PassesOwn.never rfl (pi_list (pe_dget hu (pv 0) pe_str (fun _ _ => rfl))) (pg_tup rfl (pgs_cons (pg_name (i := 8) sc__law_web.nd rfl (.inl rfl)) (pgs_cons (pg_name (i := 9) sc__law_web.nd rfl (.inl rfl)) (pgs_cons (pg_name (i := 10) sc__law_web.nd rfl (.inl rfl)) (pgs_cons (pg_name (i := 11) sc__law_web.nd rfl (.inl rfl)) pgs_nil)))))
        (pss_one (ps_set (i := 1) sc__law_web.nd rfl (.inl rfl) (pe_mg0 (met_Web_with_tie T) hr (by decide) (pv 1) (pa_cons (pv 8) (pa_cons (pv 9) pa_nil)) (pk_cons (pv 10) (pk_cons (pv 11) pk_nil))))))
      (pss_one (ps_ret (pv 1))))))), ?_⟩
    refine ⟨_, rfl, d, _, rfl, mk_by h1, fun x dx nx ndx ne => ⟨x, dx, m.last, rfl, upd_same, ok.last.1, ok.last.2, fun a0 b0 c0 H1 kp hp ha0 hb0 hc0 => ⟨rfl, ?_⟩⟩⟩
    have s1 : Same H H1 := Same.made nx ndx kp
    have W1 : WebAt (CW K) H1 x ⟨m.last, [], [], []⟩ := ⟨⟨dx, a0, b0, c0, [], [], hp, ha0, hb0, .nil, hc0, .nil⟩, ⟨by show 0 ≤ 10; decide, by show 0 ≤ 4; decide, by show 0 ≤ 40; decide⟩, ok.last⟩
    -- the moments
    refine ⟨_, rfl, d, _, rfl, mk_own (s1 _ _ h1), o, rfl, ⟨_, .inl (.inl (s1 _ _ h2))⟩, for_list (K := K) (a := o) (xs := m.own.map V.str) (fun i σ H2 => ∃ (p : Addr) (y : Option V), σ = [some (.ref d), some (.ref p), y, none, none, none, none, none, none, none, none, none] ∧
      Same H H2 ∧ H p = none ∧ WebAt (CW K) H2 p ⟨m.last, m.own.take i, [], []⟩) ⟨x, none, rfl, s1, nx, W1⟩ (fun i σ H2 _ ⟨_, _, _, s2, _⟩ => .inl (.inl (s2 _ _ h2))) ?_ ?_⟩
    · rintro i v σ H2 hv ⟨p, y, rfl, s2, np, W2⟩
      rw [List.getElem?_map] at hv
      cases ez : m.own[i]? with
      | none =>
        rw [ez] at hv
        cases hv
      | some z =>
        rw [ez] at hv
        cases hv
        have hi : i < m.own.length := (List.getElem?_eq_some_iff.mp ez).1
        have hz := pool_nm (ok.pool z (List.mem_append.mpr (.inl (List.mem_of_getElem? ez))))
        obtain ⟨dx2, _, _, _, _, _, g1, _⟩ := W2.ex
        refine ⟨_, rfl, p, dx2, _, rfl, g1, wf_no (by decide +kernel), _, rfl, p, _, z, rfl, W2, hz.1, ?_, ?_, fun r H3 s3 nr W3 => ?_⟩
        · intro hm
          rcases List.mem_cons.mp hm with e | e
          · exact hz.2 e
          · rcases List.mem_append.mp e with e | e
            · exact nd_take ndo ez e
            · cases e
        · show (m.own.take i).length < 10
          rw [List.length_take]
          omega
        · refine ⟨r, _, rfl, s2.trans s3, s2.free nr, ?_⟩
          rw [List.take_add_one, ez]
          exact W3
    · rintro σ H2 ⟨p, y, rfl, s2, np, W2⟩
      have e0 : m.own.take (m.own.map V.str).length = m.own := List.take_of_length_le (by rw [List.length_map]; exact Nat.le_refl _)
      rw [e0] at W2
      -- the spans
      refine ⟨_, rfl, d, _, rfl, mk_wd (s2 _ _ h1), u, rfl, ⟨_, .inl (.inl (s2 _ _ h3))⟩, for_list (K := K) (a := u) (xs := ws) (fun i σ H3 => ∃ (p : Addr) (y3 y4 y5 y6 y7 : Option V), σ = [some (.ref d), some (.ref p), y, y3, y4, y5, y6, y7, none, none, none, none] ∧
        Same H H3 ∧ H p = none ∧ WebAt (CW K) H3 p ⟨m.last, m.own, m.wd.take i, []⟩) ⟨p, none, none, none, none, none, rfl, s2, np, W2⟩ (fun i σ H3 _ ⟨_, _, _, _, _, _, _, s3, _⟩ => .inl (.inl (s3 _ _ h3))) ?_ ?_⟩
      · rintro i v σ H3 hv ⟨p, y3, y4, y5, y6, y7, rfl, s3, np, W3⟩
        obtain ⟨t, y, rfl, ey, ht⟩ := row_of h4 hv
        have hi : i < m.wd.length := (List.getElem?_eq_some_iff.mp ey).1
        have hy := ok.wd y (List.mem_of_getElem? ey)
        have een : (m.wd.map (·.en))[i]? = some y.en := by
          rw [List.getElem?_map, ey]
          rfl
        have hmem : y.en ∈ m.own ++ m.wd.map (·.en) := List.mem_append.mpr (.inr (List.mem_of_getElem? een))
        have hz := pool_nm (ok.pool y.en hmem)
        obtain ⟨dx3, _, _, _, _, _, g1, _⟩ := W3.ex
        refine ⟨t, y.row, rfl, .inl (.inl (s3 _ _ ht)), rfl, _, _, rfl, _, _, rfl, _, _, rfl, _, _, rfl, _, _, rfl, rfl, ?_⟩
        refine ⟨_, rfl, p, dx3, _, rfl, g1, wf_no (by decide +kernel), _, rfl, _, rfl, _, rfl, _, rfl, _, rfl, rfl, rfl, p, _, y, rfl, W3, ⟨hz.1, ?_, hy.bg, hy.lo, hy.hi, hy.top, hy.la, ?_⟩, fun r H4 s4 nr W4 => ?_⟩
        · intro hm
          rcases List.mem_cons.mp hm with e | e
          · exact hz.2 e
          · rcases List.mem_append.mp e with e | e
            · exact (List.nodup_append.mp ok.nd).2.2 _ e _ (List.mem_of_getElem? een) rfl
            · have e : y.en ∈ (m.wd.map (·.en)).take i := by
                rw [← List.map_take]
                exact e
              exact nd_take nde een e
        · show (m.wd.take i).length < 4
          rw [List.length_take]
          omega
        · refine ⟨r, _, _, _, _, _, rfl, s3.trans s4, s3.free nr, ?_⟩
          rw [List.take_add_one, ey]
          exact W4
      · rintro σ H3 ⟨p, y3, y4, y5, y6, y7, rfl, s3, np, W3⟩
        have ew : ws.length = m.wd.length := by rw [h4.len, List.length_map]
        have e0 : m.wd.take ws.length = m.wd := List.take_of_length_le (by omega)
        rw [e0] at W3
        -- the ties
        refine ⟨_, rfl, d, _, rfl, mk_bd (s3 _ _ h1), b, rfl, ⟨_, .inl (.inl (s3 _ _ h5))⟩, for_list (K := K) (a := b) (xs := bs) (fun i σ H4 => ∃ (p : Addr) (y8 y9 y10 y11 : Option V), σ = [some (.ref d), some (.ref p), y, y3, y4, y5, y6, y7, y8, y9, y10, y11] ∧
          Same H H4 ∧ H p = none ∧ WebAt (CW K) H4 p ⟨m.last, m.own, m.wd, m.bd.take i⟩) ⟨p, none, none, none, none, rfl, s3, np, W3⟩ (fun i σ H4 _ ⟨_, _, _, _, _, _, s4, _⟩ => .inl (.inl (s4 _ _ h5))) ?_ ?_⟩
        · rintro i v σ H4 hv ⟨p, y8, y9, y10, y11, rfl, s4, np, W4⟩
          obtain ⟨t, y, rfl, ey, ht⟩ := row_of h6 hv
          have hi : i < m.bd.length := (List.getElem?_eq_some_iff.mp ey).1
          have hy := ok.bd y (List.mem_of_getElem? ey)
          obtain ⟨dx4, _, _, _, _, _, g1, _⟩ := W4.ex
          refine ⟨t, y.row, rfl, .inl (.inl (s4 _ _ ht)), rfl, _, _, rfl, _, _, rfl, _, _, rfl, _, _, rfl, rfl, ?_⟩
          refine ⟨_, rfl, p, dx4, _, rfl, g1, wf_no (by decide +kernel), _, rfl, _, rfl, _, rfl, _, rfl, rfl, rfl, p, _, y, rfl, W4, ⟨hy.one, hy.oth, hy.ne, hy.b, ?_⟩, fun r H5 s5 nr W5 => ?_⟩
          · show (m.bd.take i).length < 40
            rw [List.length_take]
            omega
          · refine ⟨r, _, _, _, _, rfl, s4.trans s5, s4.free nr, ?_⟩
            rw [List.take_add_one, ey]
            exact W5
        · rintro σ H4 ⟨p, y8, y9, y10, y11, rfl, s4, np, W4⟩
          have eb : bs.length = m.bd.length := by rw [h6.len, List.length_map]
          have e0 : m.bd.take bs.length = m.bd := List.take_of_length_le (by omega)
          rw [e0] at W4
          exact ⟨_, rfl, q p H4 s4 np W4⟩
end
end Tw

set_option maxHeartbeats 4000000
namespace Tw
open PySem PySem.Spec PyProof.Rows L2
/-- two values that are the same through and through, at most n deep; dicts of flat values among them -/
def Sm : Nat → V → V → Hp → Prop
  | 0, _, _, _ => False
  | n + 1, x, y, H => ((x = y ∧ flatV x = true) ∨ ∃ (a b : Addr) (ks ls : List (Key × V)), x = .ref a ∧ y = .ref b ∧ a ≠ b ∧ H a = some (.dK ks) ∧ H b = some (.dK ls) ∧ ks.length = ls.length ∧ n ≠ 0 ∧ ∀ p ∈ ls, ∃ v, valV ks p.1 = some v ∧ valV ls p.1 = some v ∧ flatV v = true) ∨
    ∃ (a b : Addr) (xs ys : List V), x = .ref a ∧ y = .ref b ∧ ((H a = some (.lst xs) ∧ H b = some (.lst ys)) ∨ (H a = some (.tup xs) ∧ H b = some (.tup ys))) ∧ xs.length = ys.length ∧ xs.length ≤ 1000 ∧
    ∀ (i : Nat) (x y : V), xs[i]? = some x → ys[i]? = some y → Sm n x y H
theorem Sm.same {H H' : Hp} (s : Same H H') : ∀ {n : Nat} {x y : V}, Sm n x y H → Sm n x y H'
  | 0, _, _, h => h.elim
  | n + 1, x, y, h => by
    rcases h with (h | ⟨a, b, ks, ls, ex, ey, ne, h1, h2, h⟩) | ⟨a, b, xs, ys, ex, ey, h, hl, hl2, hi⟩
    · exact .inl (.inl h)
    · exact .inl (.inr ⟨a, b, ks, ls, ex, ey, ne, s _ _ h1, s _ _ h2, h⟩)
    · refine .inr ⟨a, b, xs, ys, ex, ey, ?_, hl, hl2, fun i x y h1 h2 => Sm.same s (hi i x y h1 h2)⟩
      rcases h with ⟨h1, h2⟩ | ⟨h1, h2⟩
      · exact .inl ⟨s _ _ h1, s _ _ h2⟩
      · exact .inr ⟨s _ _ h1, s _ _ h2⟩
theorem Sm.flat {H : Hp} {n : Nat} {x : V} (h : flatV x = true) : Sm (n + 1) x x H := .inl (.inl ⟨rfl, h⟩)
theorem sm_dict {H : Hp} {a b : Addr} {ks ls : List (Key × V)} {n : Nat} (ne : a ≠ b) (h1 : H a = some (.dK ks)) (h2 : H b = some (.dK ls)) (hl : ks.length = ls.length) (h : ∀ p ∈ ls, ∃ v, valV ks p.1 = some v ∧ valV ls p.1 = some v ∧ flatV v = true) : Sm (n + 2) (.ref a) (.ref b) H :=
  .inl (.inr ⟨a, b, ks, ls, rfl, rfl, ne, h1, h2, hl, Nat.succ_ne_zero _, h⟩)
theorem sm_eq {H : Hp} {n : Nat} {x y : V} (e : x = y) (h : flatV x = true) : Sm (n + 1) x y H := by
  subst e
  exact Sm.flat h
theorem sm_lst {H : Hp} {a b : Addr} {xs ys : List V} {n : Nat} (h1 : H a = some (.lst xs)) (h2 : H b = some (.lst ys)) (hl : xs.length = ys.length) (h0 : xs.length ≤ 1000) (h : ∀ (i : Nat) (x y : V), xs[i]? = some x → ys[i]? = some y → Sm n x y H) : Sm (n + 1) (.ref a) (.ref b) H :=
  .inr ⟨a, b, xs, ys, rfl, rfl, .inl ⟨h1, h2⟩, hl, h0, h⟩
theorem sm_tup {H : Hp} {a b : Addr} {xs ys : List V} {n : Nat} (h1 : H a = some (.tup xs)) (h2 : H b = some (.tup ys)) (hl : xs.length = ys.length) (h0 : xs.length ≤ 1000) (h : ∀ (i : Nat) (x y : V), xs[i]? = some x → ys[i]? = some y → Sm n x y H) : Sm (n + 1) (.ref a) (.ref b) H :=
  .inr ⟨a, b, xs, ys, rfl, rfl, .inr ⟨h1, h2⟩, hl, h0, h⟩
theorem sm_flats {H : Hp} {xs : List V} {n : Nat} (hf : xs.all flatV = true) : ∀ (i : Nat) (x y : V), xs[i]? = some x → xs[i]? = some y → Sm (n + 1) x y H := fun i x y h1 h2 => by
  rw [h1] at h2
  cases h2
  exact Sm.flat (List.all_eq_true.mp hf x (List.mem_of_getElem? h1))
theorem sm_strs {H : Hp} {a b : Addr} {l : List Str} {n : Nat} (h1 : H a = some (.lst (l.map V.str))) (h2 : H b = some (.lst (l.map V.str))) (h0 : l.length ≤ 1000) : Sm (n + 2) (.ref a) (.ref b) H :=
  sm_lst h1 h2 rfl (by rw [List.length_map]; exact h0) (sm_flats (flat_strs l))
theorem sm_rows {H : Hp} {a b : Addr} {xs ys : List V} {rs : List (List V)} {n : Nat} (h1 : H a = some (.lst xs)) (h2 : H b = some (.lst ys)) (r1 : Rows H xs rs) (r2 : Rows H ys rs) (h0 : rs.length ≤ 1000) (hf : ∀ r ∈ rs, r.all flatV = true ∧ r.length ≤ 1000) : Sm (n + 3) (.ref a) (.ref b) H := by
  refine sm_lst h1 h2 (by rw [r1.len, r2.len]) (by rw [r1.len]; exact h0) fun i x y hx hy => ?_
  obtain ⟨t, r, rfl, hr, ht⟩ := r1.at hx
  obtain ⟨u, r', rfl, hr', hu⟩ := r2.at hy
  rw [hr] at hr'
  cases hr'
  have hr2 := hf r (List.mem_of_getElem? hr)
  exact sm_tup ht hu rfl hr2.2 (sm_flats hr2.1)
theorem rIx_of {K : PySem.W.Frag} {H : Hp} {a : Addr} {xs : List V} {i : Int} {v : V} {Q : VK} (h : SqL K H a xs ∨ SqT K H a xs) (e : atI xs i = some v) (q : Q v H) : rIx K (.ref a) (.int i) H Q := by
  rcases h with h | h
  · exact .inl ⟨a, xs, i, v, rfl, rfl, h, e, q⟩
  · exact .inr (.inl ⟨a, xs, i, v, rfl, rfl, h, e, q⟩)
theorem sq_same {K : PySem.W.Frag} {H H' : Hp} {a : Addr} {xs : List V} (s : Same H H') (h : SqL K H a xs ∨ SqT K H a xs) : SqL K H' a xs ∨ SqT K H' a xs := by
  rcases h with h | h
  · exact .inl (s.seq h)
  · refine .inr ?_
    rcases h with (h | ⟨o, h⟩) | h
    · exact .inl (.inl (s _ _ h))
    · exact .inl (.inr ⟨o, s _ _ h⟩)
    · exact .inr h
theorem lenV_of {K : PySem.W.Frag} {H : Hp} {a : Addr} {xs : List V} (h : SqL K H a xs ∨ SqT K H a xs) : LenV K (.ref a) H xs.length := by
  rcases h with h | h
  · exact .inl ⟨xs, h, rfl⟩
  · exact .inr ⟨xs, h, rfl⟩
section
variable {P : Program} {w : World} {K : PySem.W.Frag} {mg : Str → Option Value} {base : Heap}
def sp_same (n : Nat) : Sp := fun vs H Q _ => ∃ x y : V, vs = [x, y] ∧ Sm n x y H ∧ ∀ H', Same H H' → Q (.bl true) H'
theorem cal_same (T : Tp K mg) : ∀ n : Nat, Cal P w K mg base n "_law_same" (sp_same n)
  | 0 => by
    obtain ⟨fd, F⟩ := f__law_same T
    exact ⟨_, fd, ["_law_found", "_law_due"], [], ⟨fun vs H Q E h => by
      obtain ⟨x, y, rfl, _⟩ := h
      rfl, fun A outer s H args us vs Q E _ _ _ _ h => by
      obtain ⟨x, y, rfl, h, _⟩ := h
      exact h.elim⟩, g__law_same T, F.kp, b__law_same F, .nil⟩
  | n + 1 => by
    have ih := cal_same T n
    obtain ⟨fd, F⟩ := f__law_same T
    refine cal_of F (g__law_same T) (b__law_same F) sc__law_same (fun vs H Q E h => ?_) (fun cdv A outer s H vs Q E hr h => ?_)
    · obtain ⟨x, y, rfl, _⟩ := h
      rfl
    · obtain ⟨x, y, rfl, h, q⟩ := h
      have hu := hu_of hr
      refine ⟨_, (pss_cons (ps_if (pt_val (pe_callB call_isK (by rfl) (z_isinstance T) bb_isinstance (pa_cons (pv 1) (pa_cons (pe_bltn (v := .ty "bool") (by rfl) (z_bool T) bb_bool rfl) pa_nil)))) (pss_one (ps_ret (pe_and (pe_callB call_isK (by rfl) (z_isinstance T) bb_isinstance (pa_cons (pv 0) (pa_cons (pe_bltn (v := .ty "bool") (by rfl) (z_bool T) bb_bool rfl) pa_nil))) (pe_one (pe_cmpR op_eq (pv 0) (pv 1) (nomark _)))))) pss_nil)
      (pss_cons (ps_if (pt_cmpR op_isN (pv 1) pe_non (nomark _)) (pss_one (ps_ret (pe_cmpR op_isN (pv 0) pe_non (nomark _)))) pss_nil)
      (pss_cons (ps_if (pt_val (pe_callB call_isK (by rfl) (z_isinstance T) bb_isinstance (pa_cons (pv 1) (pa_cons (pe_bltn (v := .ty "int") (by rfl) (z_int T) bb_int rfl) pa_nil)))) (pss_cons (ps_if (PW.pt (pw_or (pt_val (pe_callB call_isK (by rfl) (z_isinstance T) bb_isinstance (pa_cons (pv 0) (pa_cons (pe_bltn (v := .ty "bool") (by rfl) (z_bool T) bb_bool rfl) pa_nil)))) (pw_or1 (pt_not (pt_val (pe_callB call_isK (by rfl) (z_isinstance T) bb_isinstance (pa_cons (pv 0) (pa_cons (pe_bltn (v := .ty "int") (by rfl) (z_int T) bb_int rfl) pa_nil)))))))) (pss_one (ps_ret pe_bl)) pss_nil)
        (pss_one (ps_ret (pe_cmpR op_eq (pv 0) (pv 1) (nomark _))))) pss_nil)
      (pss_cons (ps_if (pt_val (pe_callB call_isK (by rfl) (z_isinstance T) bb_isinstance (pa_cons (pv 1) (pa_cons (pe_bltn (v := .ty "str") (by rfl) (z_str T) bb_str rfl) pa_nil)))) (pss_one (ps_ret (pe_and (pe_callB call_isK (by rfl) (z_isinstance T) bb_isinstance (pa_cons (pv 0) (pa_cons (pe_bltn (v := .ty "str") (by rfl) (z_str T) bb_str rfl) pa_nil))) (pe_one (pe_cmpR op_eq (pv 0) (pv 1) (nomark _)))))) pss_nil)
      (pss_cons (ps_if (pt_val (pe_callB call_isK (by rfl) (z_isinstance T) bb_isinstance (pa_cons (pv 1) (pa_cons (pe_bltn (v := .ty "dict") (by rfl) (z_dict T) bb_dict rfl) pa_nil)))) (pss_cons (ps_if (PW.pt (pw_or (pt_not (pt_val (pe_callB call_isK (by rfl) (z_isinstance T) bb_isinstance (pa_cons (pv 0) (pa_cons (pe_bltn (v := .ty "dict") (by rfl) (z_dict T) bb_dict rfl) pa_nil))))) (pw_or1 (pt_cmpR op_ne (pe_callB call_lenD (by rfl) (z_len T) bb_len (pa_cons (pv 0) pa_nil)) (pe_callB call_lenD (by rfl) (z_len T) bb_len (pa_cons (pv 1) pa_nil)) (nomark _))))) (pss_one (ps_ret pe_bl)) pss_nil)
        (pss_cons (ps_lock (ps_for PassesOwn.never rfl (pi_keys (pv 1)) (pg_name (i := 2) sc__law_same.nd rfl (.inl rfl))
          (pss_one (ps_if (PW.pt (pw_or (pt_cmp (pc_dnotin hu (pv 2) (pv 0)) (by rfl)) (pw_or1 (pt_not (pt_val (C8.pe_c ih hr (Nat.le_refl _) rfl (pa_cons (pe_dget hu (pv 0) (pv 2) (fun _ _ => rfl)) (pa_cons (pe_dget hu (pv 1) (pv 2) (fun _ _ => rfl)) pa_nil)))))))) (pss_one (ps_ret pe_bl)) pss_nil))))
        (pss_one (ps_ret pe_bl)))) pss_nil)
      (pss_cons (ps_if (PW.pt (pw_and (pt_val (pe_callB call_isK (by rfl) (z_isinstance T) bb_isinstance (pa_cons (pv 1) (pa_cons (pe_bltn (v := .ty "tuple") (by rfl) (z_tuple T) bb_tuple rfl) pa_nil)))) (pw_and1 (pt_not (pt_val (pe_callB call_isK (by rfl) (z_isinstance T) bb_isinstance (pa_cons (pv 0) (pa_cons (pe_bltn (v := .ty "tuple") (by rfl) (z_tuple T) bb_tuple rfl) pa_nil)))))))) (pss_one (ps_ret pe_bl)) pss_nil)
      (pss_cons (ps_if (PW.pt (pw_and (pt_val (pe_callB call_isK (by rfl) (z_isinstance T) bb_isinstance (pa_cons (pv 1) (pa_cons (pe_bltn (v := .ty "list") (by rfl) (z_list T) bb_list rfl) pa_nil)))) (pw_and1 (pt_not (pt_val (pe_callB call_isK (by rfl) (z_isinstance T) bb_isinstance (pa_cons (pv 0) (pa_cons (pe_bltn (v := .ty "list") (by rfl) (z_list T) bb_list rfl) pa_nil)))))))) (pss_one (ps_ret pe_bl)) pss_nil)
      (pss_cons (ps_if (pt_cmpR op_ne (pe_callB call_len (by rfl) (z_len T) bb_len (pa_cons (pv 0) pa_nil)) (pe_callB call_len (by rfl) (z_len T) bb_len (pa_cons (pv 1) pa_nil)) (nomark _)) (pss_one (ps_ret pe_bl)) pss_nil)
      (pss_one (ps_ret (pe_callB (cr_all rfl) (by rfl) (z_all T) bb_all (pa_cons (pe_lc (own := [("_law_k", 3)]) (g := gName 3) (tt := tYes) rfl sc__law_same.nd (pi_range1 rfl (z_range T) (pa_cons (pe_callB call_len (by rfl) (z_len T) bb_len (pa_cons (pv 1) pa_nil)) pa_nil)) (blkOk_by (N := N__law_same) (sc := defScope s__law_same) (by decide +kernel)) (fun _ _ _ _ _ => (pg_name (i := 3) sc__law_same.nd rfl (.inl rfl))) (fun _ _ _ _ _ => pts_nil) (fun _ _ _ _ _ => (C8.pe_c ih hr (Nat.le_refl _) rfl (pa_cons (pe_ix (ix_seqK (K := K) rfl) (pv 0) (pv 3) (fun _ _ => rfl)) (pa_cons (pe_ix (ix_seqK (K := K) rfl) (pv 1) (pv 3) (fun _ _ => rfl)) pa_nil))))) pa_nil)))))))))))), ?_⟩
      rcases h with (⟨e, fl⟩ | ⟨a, b, ks, ls, ex, ey, nab, h1, h2, hl, n0, hi⟩) | ⟨a, b, xs, ys, ex, ey, hk, hl, hl2, hi⟩
      · subst e
        cases x with
        | bl v =>
          refine ⟨_, rfl, _, "bool", "bool", rfl, .base (.bl _), by decide, by decide, _, rfl, iteT ⟨_, rfl, _, "bool", "bool", rfl, .base (.bl _), by decide, by decide, _, rfl, iteT ⟨_, rfl, _, rfl, rfl, ?_⟩⟩⟩
          rw [decide_eq_true rfl]
          exact q H (Same.refl H)
        | non =>
          refine ⟨_, rfl, _, "bool", "NoneType", rfl, .base .non, by decide, by decide, _, rfl, iteF ⟨_, rfl, rfl, _, rfl, ?_⟩⟩
          rw [decide_eq_true rfl]
          refine iteT ⟨_, rfl, rfl, ?_⟩
          exact q H (Same.refl H)
        | int i =>
          refine ⟨_, rfl, _, "bool", "int", rfl, .base (.int _), by decide, by decide, _, rfl, iteF ⟨_, rfl, rfl, _, rfl, ?_⟩⟩
          rw [decide_eq_false (show ¬ V.int i = V.non by intro z; cases z)]
          refine iteF ⟨_, rfl, _, "int", "int", rfl, .base (.int _), by decide, by decide, _, rfl, iteT ⟨_, rfl, _, "bool", "int", rfl, .base (.int _), by decide, by decide, _, rfl, iteF ⟨_, rfl, _, "int", "int", rfl, .base (.int _), by decide, by decide, _, rfl, iteF ⟨_, rfl, _, rfl, rfl, ?_⟩⟩⟩⟩
          rw [decide_eq_true rfl]
          exact q H (Same.refl H)
        | str z =>
          refine ⟨_, rfl, _, "bool", "str", rfl, .base (.str _), by decide, by decide, _, rfl, iteF ⟨_, rfl, rfl, _, rfl, ?_⟩⟩
          rw [decide_eq_false (show ¬ V.str z = V.non by intro z; cases z)]
          refine iteF ⟨_, rfl, _, "int", "str", rfl, .base (.str _), by decide, by decide, _, rfl, iteF ⟨_, rfl, _, "str", "str", rfl, .base (.str _), by decide, by decide, _, rfl, iteT ⟨_, rfl, _, "str", "str", rfl, .base (.str _), by decide, by decide, _, rfl, iteT ⟨_, rfl, _, rfl, rfl, ?_⟩⟩⟩⟩
          rw [decide_eq_true rfl]
          exact q H (Same.refl H)
        | byt _ => cases fl
        | flt _ => cases fl
        | ref _ => cases fl
        | ty _ => cases fl
      · subst ex ey
        have nn : ¬ V.ref b = V.non := by intro z; cases z
        obtain ⟨n', rfl⟩ : ∃ n', n = n' + 1 := ⟨n - 1, by omega⟩
        refine ⟨_, rfl, _, "bool", "dict", rfl, .base (.dK h2), by decide, by decide, _, rfl, iteF ⟨_, rfl, rfl, _, rfl, ?_⟩⟩
        rw [decide_eq_false nn]
        refine iteF ⟨_, rfl, _, "int", "dict", rfl, .base (.dK h2), by decide, by decide, _, rfl, iteF ⟨_, rfl, _, "str", "dict", rfl, .base (.dK h2), by decide, by decide, _, rfl, iteF ⟨_, rfl, _, "dict", "dict", rfl, .base (.dK h2), by decide, by decide, _, rfl, iteT ⟨_, rfl, _, "dict", "dict", rfl, .base (.dK h1), by decide, by decide, _, rfl, iteF ?_⟩⟩⟩⟩
        refine ⟨_, rfl, a, ks, rfl, h1, _, rfl, b, ls, rfl, h2, rfl, _, rfl, ?_⟩
        refine iteNS (by rw [hl]) ?_
        refine ⟨b, _, h2, True.intro, fun od => ⟨_, rfl, b, od, rfl, .inl ⟨ls, upd_same, ?_⟩⟩⟩
        refine for_it walk_keys (fun i σ H1 => Same (upd H b (.frz od (.dK ls))) H1 ∧ ∃ y2 : Option V, σ = [some (.ref a), some (.ref b), y2, none]) ⟨Same.refl _, none, rfl⟩ (fun i σ H1 _ h => h.1 _ _ upd_same) ?_ ?_
        · rintro i x σ H1 H1' hi1 ⟨s1, y2, rfl⟩ ⟨rfl, k, v', ek, rfl⟩
          obtain ⟨v, v1, v2, fv⟩ := hi _ (List.mem_of_getElem? ek)
          have g1 : DGet H1' a (kV k) (some v) := .inl ⟨ks, k, .inl (s1 _ _ (by rw [upd_ne nab]; exact h1)), rfl, v1.symm⟩
          have g2 : DGet H1' b (kV k) (some v) := .inl ⟨ls, k, .inr ⟨od, s1 _ _ upd_same⟩, rfl, v2.symm⟩
          refine ⟨_, rfl, _, rfl, a, _, rfl, g1, _, rfl, iteF ⟨_, rfl, _, rfl, a, _, rfl, g1, _, rfl, _, rfl, b, _, rfl, g2, _, _, rfl, Sm.flat fv, fun H2 s2 => ⟨_, rfl, iteF ⟨s1.trans s2, _, rfl⟩⟩⟩⟩
        · rintro σ H1 ⟨s1, y2, rfl⟩
          refine ⟨s1 _ _ upd_same, q _ fun c o e => ?_⟩
          by_cases cb : c = b
          · subst cb
            rw [upd_same, ← e, h2]
          · rw [upd_ne cb]
            exact s1 _ _ (by rw [upd_ne cb]; exact e)
      · subst ex ey
        have sx : SqL K H a xs ∨ SqT K H a xs := by
          rcases hk with ⟨h1, h2⟩ | ⟨h1, h2⟩
          · exact .inl (.inl (.inl h1))
          · exact .inr (.inl (.inl h1))
        have sy : SqL K H b ys ∨ SqT K H b ys := by
          rcases hk with ⟨h1, h2⟩ | ⟨h1, h2⟩
          · exact .inl (.inl (.inl h2))
          · exact .inr (.inl (.inl h2))
        have nn : ¬ V.ref b = V.non := by intro z; cases z
        rcases hk with ⟨h1, h2⟩ | ⟨h1, h2⟩
        · refine ⟨_, rfl, _, "bool", "list", rfl, .base (.lst h2), by decide, by decide, _, rfl, iteF ⟨_, rfl, rfl, _, rfl, ?_⟩⟩
          rw [decide_eq_false nn]
          refine iteF ⟨_, rfl, _, "int", "list", rfl, .base (.lst h2), by decide, by decide, _, rfl, iteF ⟨_, rfl, _, "str", "list", rfl, .base (.lst h2), by decide, by decide, _, rfl, iteF ⟨_, rfl, _, "dict", "list", rfl, .base (.lst h2), by decide, by decide, _, rfl, iteF
            ⟨_, rfl, _, "tuple", "list", rfl, .base (.lst h2), by decide, by decide, _, rfl, iteF (iteF ⟨_, rfl, _, "list", "list", rfl, .base (.lst h2), by decide, by decide, _, rfl, iteT ⟨_, rfl, _, "list", "list", rfl, .base (.lst h1), by decide, by decide, _, rfl, iteF ?_⟩⟩)⟩⟩⟩⟩
          refine ⟨_, rfl, _, _, rfl, lenV_of sx, _, rfl, _, _, rfl, lenV_of sy, rfl, _, rfl, ?_⟩
          refine iteNS (by rw [hl]) ?_
          refine ⟨_, rfl, _, _, rfl, lenV_of sy, _, rfl, by omega, by omega, fun D nD => ?_⟩
          refine lc_range (lo := 0) (n := ys.length) (fun i H1 => Same H H1 ∧ H1 D = some (.lst ((List.replicate i true).map V.bl))) ⟨same_upd nD, upd_same⟩ ?_ ?_
          · rintro i H1 hi1 ⟨s1, d1⟩
            have hx : i < xs.length := by omega
            refine ⟨rfl, yes_i (iteT ⟨_, rfl, _, rfl, rIx_of (v := xs[i]) (sq_same s1 sx) (at_of (j := i) (by omega) (List.getElem?_eq_getElem hx)) ⟨_, rfl, _, rfl, rIx_of (v := ys[i]) (sq_same s1 sy) (at_of (j := i) (by omega) (List.getElem?_eq_getElem hi1)) ⟨_, _, rfl, (hi i _ _ (List.getElem?_eq_getElem hx) (List.getElem?_eq_getElem hi1)).same s1, fun H2 s2 => ⟨_, s2 _ _ d1, ?_, ?_, ?_⟩⟩⟩⟩)⟩
            · rw [List.length_map, List.length_replicate]
              exact small1000 (by omega)
            · exact same_put (s1.trans s2) nD
            · rw [upd_same, List.replicate_succ', List.map_append]
              rfl
          · rintro H1 ⟨s1, d1⟩
            refine ⟨D, _, rfl, .inl (.inl d1), ?_⟩
            rw [show (List.replicate ys.length true).all id = true by simp]
            exact q H1 s1
        · refine ⟨_, rfl, _, "bool", "tuple", rfl, .base (.tup h2), by decide, by decide, _, rfl, iteF ⟨_, rfl, rfl, _, rfl, ?_⟩⟩
          rw [decide_eq_false nn]
          refine iteF ⟨_, rfl, _, "int", "tuple", rfl, .base (.tup h2), by decide, by decide, _, rfl, iteF ⟨_, rfl, _, "str", "tuple", rfl, .base (.tup h2), by decide, by decide, _, rfl, iteF ⟨_, rfl, _, "dict", "tuple", rfl, .base (.tup h2), by decide, by decide, _, rfl, iteF
            ⟨_, rfl, _, "tuple", "tuple", rfl, .base (.tup h2), by decide, by decide, _, rfl, iteT ⟨_, rfl, _, "tuple", "tuple", rfl, .base (.tup h1), by decide, by decide, _, rfl, iteF ⟨_, rfl, _, "list", "tuple", rfl, .base (.tup h2), by decide, by decide, _, rfl, iteF (iteF ?_)⟩⟩⟩⟩⟩⟩
          refine ⟨_, rfl, _, _, rfl, lenV_of sx, _, rfl, _, _, rfl, lenV_of sy, rfl, _, rfl, ?_⟩
          refine iteNS (by rw [hl]) ?_
          refine ⟨_, rfl, _, _, rfl, lenV_of sy, _, rfl, by omega, by omega, fun D nD => ?_⟩
          refine lc_range (lo := 0) (n := ys.length) (fun i H1 => Same H H1 ∧ H1 D = some (.lst ((List.replicate i true).map V.bl))) ⟨same_upd nD, upd_same⟩ ?_ ?_
          · rintro i H1 hi1 ⟨s1, d1⟩
            have hx : i < xs.length := by omega
            refine ⟨rfl, yes_i (iteT ⟨_, rfl, _, rfl, rIx_of (v := xs[i]) (sq_same s1 sx) (at_of (j := i) (by omega) (List.getElem?_eq_getElem hx)) ⟨_, rfl, _, rfl, rIx_of (v := ys[i]) (sq_same s1 sy) (at_of (j := i) (by omega) (List.getElem?_eq_getElem hi1)) ⟨_, _, rfl, (hi i _ _ (List.getElem?_eq_getElem hx) (List.getElem?_eq_getElem hi1)).same s1, fun H2 s2 => ⟨_, s2 _ _ d1, ?_, ?_, ?_⟩⟩⟩⟩)⟩
            · rw [List.length_map, List.length_replicate]
              exact small1000 (by omega)
            · exact same_put (s1.trans s2) nD
            · rw [upd_same, List.replicate_succ', List.map_append]
              rfl
          · rintro H1 ⟨s1, d1⟩
            refine ⟨D, _, rfl, .inl (.inl d1), ?_⟩
            rw [show (List.replicate ys.length true).all id = true by simp]
            exact q H1 s1
/-- as it is asked by the laws: data at most six deep -/
theorem cal__law_same (T : Tp K mg) : Cal P w K mg base 7 "_law_same" (sp_same 7) := cal_same T 7
end
end Tw

set_option maxHeartbeats 4000000
namespace Tw
open PySem PySem.Spec PyProof.Rows L2
section
variable {prog : Program} {w : World} {A : Around} {E : Value → Shared → Prop} {s : Shared} {K : PySem.W.Frag} {x C L f : Addr} {h₀ : Heap} {m : Str → Option Value} {ox : Obj} {od : Option Obj}
open PySem.W PySem.Calls Builtin in
/-- what truthy's own call of len finds: the answer of __len__, in its bounds -/
theorem len_ownBody {Q : Value → Shared → Prop} (X : K.In s.heap) (I : InstAt s.heap x ox C od) (hs : findIn K (.ref C) "__len__" = some (some (.ref f))) (hf : isFn K (.ref f) = true)
    (h : wpAny (model prog w) A (call (.ref f) [.ref x]) (PySem.W.LenBack Q) E s) : wpAny (model prog w) A (Builtin.«len» ⟨[.ref x], []⟩) (fun fin s' => ∃ r, fin = .done (.ret r) ∧ Q r s') E s := by
  have ask : ∀ {R : Option Value → Shared → Prop}, (∀ n u s', (0 ≤ n ∧ n < 2 ^ 63) → Q (.int n s'.toks) { s' with toks := s'.toks + 1 } → R (some (.int n u)) s') → wpAny (model prog w) A (callSpecial? (.ref x) (Str.ofString "__len__")) R E s := fun {R} k =>
    special_fn X I hs (beq_iff_eq.mp hf) (wpAny_mono h (fun r s' back => by
      cases r with
      | int n u => exact k n u s' back.1 back.2
      | _ => exact False.elim back) fun _ _ y => y)
  unfold Builtin.«len»
  repeat (first | with_reducible refine ask fun n u s' bnd back => ?_ | wp_step)
  rw [if_neg (Int.not_le.mpr bnd.2)]
  repeat wp_step
  exact ⟨_, rfl, back⟩
open PySem.W PySem.Calls Builtin in
theorem truthy_own {Q : Bool → Shared → Prop} (X : K.In s.heap) (I : InstAt s.heap x ox C od) (hb : findIn K (.ref C) "__bool__" = some none) (hs : findIn K (.ref C) "__len__" = some (some (.ref f))) (hf : isFn K (.ref f) = true)
    (h : wpAny (model prog w) A.in1 (call (.ref f) [.ref x]) (PySem.W.LenBack fun v s' => ∃ n t, v = .int n t ∧ Q (n != 0) s') E s) : wpAny (model prog w) A (truthy (.ref x)) Q E s := by
  have counted : ∀ {R : Value → Shared → Prop}, (∀ n t s', Q (n != 0) s' → R (.int n t) s') → wpAny (model prog w) A (runValue (.builtin "len" ⟨[.ref x], []⟩)) R E s := fun {R} k =>
    wpAny_runValue (codeAny_builtin entry_len (by
      rw [Around.under_plainId plain_len]
      refine wpAny_mono (len_ownBody X I hs hf h) ?_ fun _ _ z => z
      rintro _ s' ⟨_, rfl, n, t, rfl, q⟩
      exact k n t s' q))
  have noBool := looks_findIn (M := model prog w) X hb
  have hasLen := looks_findIn (M := model prog w) X hs
  unfold truthy callSpecial? specialOf
  repeat (first | with_reducible refine I.type.here ?_ | with_reducible refine noBool.here ?_ | with_reducible refine hasLen.here ?_ | with_reducible refine counted fun n t s' q => ?_ | assumption | wp_step)
theorem bool_new (l : Addr) : MeetsIn prog w (Builtin.«bool.__new__» ⟨[.type "bool", .ref l], []⟩) (fun A R s => wpAny (model prog w) A.in1 (truthy (.ref l)) (fun b s' => R (.ok (.ret (.bool b))) s') (fun e s' => R (.error e) s') s) :=
  .of_wp fun A R s hs => by
    have f1 := PySem.F.conv_sub_bool
    obtain ⟨hp, g, d, tk, os⟩ := s
    have ht : ∀ {Q : Bool → Shared → Prop}, (∀ b s', R (.ok (.ret (.bool b))) s' → Q b s') → wpAny (model prog w) A.in1 (truthy (.ref l)) Q (fun e s' => R (.error e) s') (Shared.mk hp g d tk os) := fun h => wpAny_mono hs (fun b s' z => h b s' z) fun _ _ z => z
    repeat (any_goals (first | assumption | (with_reducible refine ht fun b s' z => ?_) | wp_step))
    all_goals exact ⟨_, rfl, z⟩
end
section
variable {X : Cx} {k j : Nat} {C : Addr} {sp : Sp}
/-- bool(o) by an own __len__ -/
def rBoolO (C : Addr) (sp : Sp) : List V → Hp → VK → Prop := fun xs H Q => ∃ a dx fs, xs = [.ref a] ∧ H a = some (.ins C dx fs) ∧ sp [.ref a] H (fun v H' => ∃ i : Int, v = .int i ∧ 0 ≤ i ∧ i < 2 ^ 63 ∧ Q (.bl (i != 0)) H') E0
theorem call_boolO (c : Met X.prog X.w X.K X.mg X.base k C "__len__" sp) (nb : NoAttr X.K C "__bool__") (hr : Room j X.A) (hk : k + 3 ≤ j) : CallR X (.type "bool") (rBoolO C sp) := by
  rintro pins s σ H _ us Q I r ⟨a, dx, fs, rfl, here, q⟩
  obtain rfl := Vals.ref1 r
  obtain ⟨f, hs, hf, F⟩ := own0 c
  obtain ⟨_, J0, _⟩ := ins_get I.hok here
  obtain ⟨_, J, _⟩ := J0.look
  have room : Room k X.A.in1.in1.in1 := (hr.mono hk).in1.in1.in1
  refine callType_newIn PySem.F.called_bool PySem.F.newNe_bool (PySem.F.typeCall_bool_1 _) (PySem.F.newCall_bool_1 _) (fun obj => PySem.F.args_object_init_2 obj _) PySem.F.entry_bool_new (bool_new a) ?_
  refine truthy_own I.kIn J nb hs hf (thn (wpAny_call (SlX.run_at F room I.env0.in1.in1.in1 pass0 I r q)) ?_)
  rintro _ s1 ⟨_, H1, I1, rv, i, rfl, low, high, q1⟩
  obtain ⟨_, rfl⟩ := rv
  exact ⟨⟨low, high⟩, i, _, rfl, rfl, .bl (i != 0), H1, I1.tok _, rfl, q1⟩
end
end Tw

set_option maxHeartbeats 4000000
namespace Tw
open PySem PySem.Spec PyProof.Rows L2
theorem wd_flat (l : List Wd) : ∀ r ∈ l.map Wd.row, r.all flatV = true ∧ r.length ≤ 1000 := fun r h => by
  obtain ⟨x, _, rfl⟩ := List.mem_map.mp h
  refine ⟨?_, by show 5 ≤ 1000; decide⟩
  unfold Wd.row
  cases x.la <;> rfl
theorem bd_flat (l : List Bd) : ∀ r ∈ l.map Bd.row, r.all flatV = true ∧ r.length ≤ 1000 := fun r h => by
  obtain ⟨x, _, rfl⟩ := List.mem_map.mp h
  refine ⟨?_, by show 4 ≤ 1000; decide⟩
  unfold Bd.row
  cases x.bot <;> cases x.top <;> rfl
theorem sm_three {H : Hp} {a b : Addr} {x1 x2 x3 y1 y2 y3 : V} {n : Nat} (h1 : H a = some (.lst [x1, x2, x3])) (h2 : H b = some (.lst [y1, y2, y3])) (e1 : Sm n x1 y1 H) (e2 : Sm n x2 y2 H) (e3 : Sm n x3 y3 H) : Sm (n + 1) (.ref a) (.ref b) H := by
  refine sm_lst h1 h2 rfl (by show 3 ≤ 1000; decide) fun i x y hx hy => ?_
  match i, hx, hy with
  | 0, hx, hy =>
    cases hx
    cases hy
    exact e1
  | 1, hx, hy =>
    cases hx
    cases hy
    exact e2
  | 2, hx, hy =>
    cases hx
    cases hy
    exact e3
theorem empty_web : Str.empty ++ ("Web(" : Str) = ("Web(" : Str) := by decide +kernel
section
variable {P : Program} {w : World} {K : PySem.W.Frag} {mg : Str → Option Value} {base : Heap}
def sp_stands (K : PySem.W.Frag) : Sp := fun vs H Q _ => ∃ (p d : Addr) (m : Md), vs = [.ref p, .ref d] ∧ WebAt (CW K) H p m ∧ MdAt H d m ∧ ∀ H', Same H H' → Q (.bl true) H'
theorem cal__law_stands (T : Tp K mg) : Cal P w K mg base 9 "_law_stands" (sp_stands K) := by
  obtain ⟨fd, F⟩ := f__law_stands T
  refine cal_of F (g__law_stands T) (b__law_stands F) sc__law_stands (fun vs H Q E h => ?_) (fun cdv A outer s H vs Q E hr h => ?_)
  · obtain ⟨p, d, m, rfl, _⟩ := h
    rfl
  · obtain ⟨p, d, m, rfl, W, M, q⟩ := h
    have hu := hu_of hr
    have hlen := W.len
    have hlast := W.last
    have hpts := pts_len W
    refine ⟨_, (pss_cons (ps_set (i := 2) sc__law_stands.nd rfl (.inl rfl) (C8.pe_c (cal__law_points T) hr (by decide) rfl (pa_cons (pv 1) pa_nil)))
      (pss_cons (ps_set (i := 3) sc__law_stands.nd rfl (.inl rfl) (pe_lst (pa_cons (pe_fld (pv 0) rfl) (pa_cons (C8.pe_mt0 (met_Web_moments T) hr (by decide) (pv 0)) (pa_cons (C8.pe_mt0 (met_Web_spans T) hr (by decide) (pv 0)) pa_nil)))))
      (pss_cons (ps_if (pt_not (pt_val (C8.pe_c (cal__law_same T) hr (by decide) rfl (pa_cons (pv 3) (pa_cons (pe_lst (pa_cons (pe_dget hu (pv 1) pe_str (fun _ _ => rfl)) (pa_cons (pe_dget hu (pv 1) pe_str (fun _ _ => rfl)) (pa_cons (pe_dget hu (pv 1) pe_str (fun _ _ => rfl)) pa_nil)))) pa_nil))))) (pss_one (ps_ret pe_bl)) pss_nil)
      (pss_cons (ps_set (i := 3) sc__law_stands.nd rfl (.inl rfl) (pe_lst (pa_cons (C8.pe_mt0 (met_Web_ties T) hr (by decide) (pv 0)) (pa_cons (C8.pe_mt0 (met_Web_points T) hr (by decide) (pv 0)) (pa_cons (pe_callB (call_lenO (met_Web_UlenU T) hr (by decide)) (by rfl) (z_len T) bb_len (pa_cons (pv 0) pa_nil)) pa_nil)))))
      (pss_cons (ps_if (pt_not (pt_val (C8.pe_c (cal__law_same T) hr (by decide) rfl (pa_cons (pv 3) (pa_cons (pe_lst (pa_cons (pe_dget hu (pv 1) pe_str (fun _ _ => rfl)) (pa_cons (pv 2) (pa_cons (pe_callB call_len_seq (by rfl) (z_len T) bb_len (pa_cons (pv 2) pa_nil)) pa_nil)))) pa_nil))))) (pss_one (ps_ret pe_bl)) pss_nil)
      (pss_cons (ps_set (i := 4) sc__law_stands.nd rfl (.inl rfl) (pe_op op_add_str (pe_op op_add_str pe_str (pe_callTy call_str_int (by rfl) (z_str T) bb_str (pa_cons (pe_callB call_len_seq (by rfl) (z_len T) bb_len (pa_cons (pv 2) pa_nil)) pa_nil))) pe_str))
      (pss_cons (ps_set (i := 4) sc__law_stands.nd rfl (.inl rfl) (pe_op op_add_str (pe_op op_add_str (pe_op op_add_str (pe_op op_add_str (pv 4) (pe_callTy call_str_int (by rfl) (z_str T) bb_str (pa_cons (pe_callB call_len_seq (by rfl) (z_len T) bb_len (pa_cons (pe_dget hu (pv 1) pe_str (fun _ _ => rfl)) pa_nil)) pa_nil))) pe_str) (pe_callTy call_str_int (by rfl) (z_str T) bb_str (pa_cons (pe_dget hu (pv 1) pe_str (fun _ _ => rfl)) pa_nil))) pe_str))
      (pss_one (ps_ret (C8.pe_c (cal__law_same T) hr (by decide) rfl (pa_cons (pe_callB (call_reprO (met_Web_UreprU T) hr (by decide)) (by rfl) (z_repr T) bb_repr (pa_cons (pv 0) pa_nil)) (pa_cons (pv 4) pa_nil)))))))))))), ?_⟩
    refine ⟨_, rfl, d, m, rfl, M, by omega, by omega, fun pl H1 s1 npl hpl => ?_⟩
    have W1 := W.same s1
    obtain ⟨dx, a, b, c, ws, bs, h1, h2, h3, h4, h5, h6⟩ := W1.ex
    -- found = [web.by, web.moments(), web.spans()]
    refine ⟨_, rfl, p, CW K, dx, _, _, rfl, h1, cl_Web T, na_by T, wf_by, _, rfl, p, dx, _, rfl, h1, wf_no (by decide +kernel), p, m, rfl, W1, fun k1 n1 => ?_⟩
    have t1 := same_upd (o := .lst (m.own.map V.str)) n1
    have W2 := W1.same t1
    refine ⟨_, rfl, p, dx, _, rfl, t1 _ _ h1, wf_no (by decide +kernel), p, m, rfl, W2, fun ws2 k2 r2 n2 => ⟨by show 3 ≤ sizeLine; decide, fun l n3 => ?_⟩⟩
    have t2 := same_upd (o := .lst ws2) n2
    have t3 := same_upd (o := .lst [.int m.last, .ref k1, .ref k2]) n3
    have e1 := t3 _ _ (t2 _ _ (upd_same (H := H1) (a := k1) (o := .lst (m.own.map V.str))))
    have e2 := t3 _ _ (upd_same (H := upd H1 k1 (.lst (m.own.map V.str))) (a := k2) (o := .lst ws2))
    have sA := ((s1.trans t1).trans t2).trans t3
    obtain ⟨o, u, v, us, vs, g1, g2, g3, g4, g5, g6, g7⟩ := (M.same sA).ex
    -- [m['by'], m['own'], m['winds']]
    refine ⟨_, rfl, _, rfl, d, _, rfl, mk_by g1, _, rfl, d, _, rfl, mk_own g1, _, rfl, d, _, rfl, mk_wd g1, (by show 3 ≤ sizeLine; decide), fun l2 n4 => ?_⟩
    have t4 := same_upd (o := .lst [.int m.last, .ref o, .ref u]) n4
    refine ⟨_, _, rfl, sm_three (t4 _ _ upd_same) upd_same (Sm.flat rfl) (sm_strs (t4 _ _ e1) (t4 _ _ g2) (by omega)) (sm_rows (t4 _ _ e2) (t4 _ _ g3) (r2.keep (Kt.of (((t2).trans t3).trans t4))) (g4.keep (Kt.of t4)) (by rw [List.length_map]; omega) (wd_flat _)), fun H5 s5 => ⟨_, rfl, iteF ?_⟩⟩
    -- found = [web.ties(), web.points(), len(web)]
    have sB := (sA.trans t4).trans s5
    have W5 := W.same sB
    obtain ⟨dx5, a5, b5, c5, ws5, bs5, f1, f2, f3, f4, f5, f6⟩ := W5.ex
    refine ⟨_, rfl, p, dx5, _, rfl, f1, wf_no (by decide +kernel), p, m, rfl, W5, fun bs6 k5 r6 n5 => ?_⟩
    have t5 := same_upd (o := .lst bs6) n5
    have W6 := W5.same t5
    refine ⟨_, rfl, p, dx5, _, rfl, t5 _ _ f1, wf_no (by decide +kernel), p, m, rfl, W6, fun k6 H6 s6 n6 e6 => ?_⟩
    have W7 := W6.same s6
    refine ⟨_, rfl, p, dx5, _, rfl, s6 _ _ (t5 _ _ f1), p, m, rfl, W7, fun H7 s7 => ⟨_, rfl, by omega, by omega, by show 3 ≤ sizeLine; decide, fun l5 n7 => ?_⟩⟩
    have t7 := same_upd (o := .lst [.ref k5, .ref k6, .int (m.pts.length : Nat)]) n7
    have sC := (((t5.trans s6).trans s7).trans t7)
    have ek5 := t7 _ _ (s7 _ _ (s6 _ _ (upd_same (H := H5) (a := k5) (o := .lst bs6))))
    have ek6 := t7 _ _ (s7 _ _ e6)
    have sD := sB.trans sC
    obtain ⟨o8, u8, v8, us8, vs8, j1, j2, j3, j4, j5, j6, j7⟩ := (M.same sD).ex
    have epl := sC _ _ (s5 _ _ (t4 _ _ (t3 _ _ (t2 _ _ (t1 _ _ hpl)))))
    refine ⟨_, rfl, _, rfl, d, _, rfl, mk_bd j1, _, rfl, _, rfl, pl, _, rfl, .inl (.inl (.inl epl)), (by show 3 ≤ sizeLine; decide), fun l6 n8 => ?_⟩
    have t8 := same_upd (o := .lst [.ref v8, .ref pl, .int ((m.pts.map V.str).length : Nat)]) n8
    refine ⟨_, _, rfl, sm_three (t8 _ _ upd_same) upd_same (sm_rows (t8 _ _ ek5) (t8 _ _ j5) (r6.keep (Kt.of (sC.trans t8))) (j6.keep (Kt.of t8)) (by rw [List.length_map]; omega) (bd_flat _)) (sm_strs (t8 _ _ ek6) (t8 _ _ epl) (by omega)) (by rw [List.length_map]; exact Sm.flat rfl), fun H9 s9 => ⟨_, rfl, iteF ?_⟩⟩
    -- the text
    have sE := (sD.trans t8).trans s9
    have epl9 := s9 _ _ (t8 _ _ epl)
    have W9 := W.same sE
    obtain ⟨dx9, a9, b9, c9, ws9, bs9, w1, w2, w3, w4, w5, w6⟩ := W9.ex
    obtain ⟨o9, u9, v9, us9, vs9, i1, i2, i3, i4, i5, i6, i7⟩ := (M.same sE).ex
    have hvs : vs9.length = m.bd.length := by rw [i6.len, List.length_map]
    have l0 : ("Web(" : Str).length ≤ 4 := by decide +kernel
    have l1 := num_le (i := (m.pts.length : Nat)) (by omega) (by omega)
    have l2 : (" points, " : Str).length ≤ 9 := by decide +kernel
    have l3 := num_le (i := (m.bd.length : Nat)) (by omega) (by omega)
    have l4 : (" ties, by " : Str).length ≤ 10 := by decide +kernel
    have l5 := num_le (i := m.last) (by omega) (by omega)
    have l6 : (")" : Str).length ≤ 1 := by decide +kernel
    have fits : ∀ {x y : Str} {i j : Nat}, x.length ≤ i → y.length ≤ j → i + j ≤ 1000 → x.length + y.length ≤ sizeLine := fun h1 h2 h3 => Nat.le_of_lt (small1000 (by omega))
    have m1 := app_le l0 l1
    have m2 := app_le m1 l2
    have m3 := app_le m2 l3
    have m4 := app_le m3 l4
    have m5 := app_le m4 l5
    refine ⟨_, rfl, pl, _, rfl, .inl (.inl (.inl epl9)), _, rfl, ?_, ?_⟩
    · rw [List.length_map]
      exact num_log (by omega) (by omega)
    · rw [List.length_map]
      refine ⟨_, _, rfl, rfl, fits l0 l1 (by decide), _, _, rfl, rfl, fits m1 l2 (by decide), ?_⟩
      refine ⟨_, rfl, _, rfl, d, _, rfl, mk_bd i1, v9, _, rfl, .inl (.inl (.inl i5)), _, rfl, by rw [hvs]; exact num_log (by omega) (by omega), ?_⟩
      rw [hvs]
      refine ⟨_, _, rfl, rfl, fits m2 l3 (by decide), _, _, rfl, rfl, fits m3 l4 (by decide), _, rfl, d, _, rfl, mk_by i1, _, rfl, num_log (by omega) (by omega), _, _, rfl, rfl, fits m4 l5 (by decide), _, _, rfl, rfl, fits m5 l6 (by decide), ?_⟩
      refine ⟨_, rfl, p, dx9, _, rfl, w1, p, m, rfl, W9, fun H10 s10 => ⟨_, rfl, _, rfl, _, _, rfl, sm_eq ?_ rfl, fun H11 s11 => q H11 ((sE.trans s10).trans s11)⟩⟩
      unfold webText
      rw [empty_web]
      rfl
end
end Tw

set_option maxHeartbeats 4000000
namespace Tw
open PySem PySem.Spec PyProof.Rows L2
section
variable {P : Program} {w : World} {K : PySem.W.Frag} {mg : Str → Option Value} {base : Heap}
def sp_copy : Sp := fun vs H Q _ => ∃ (d : Addr) (m : Md), vs = [.ref d] ∧ MdAt H d m ∧ ∀ (d' o' w' b' : Addr) (H' : Hp), Same H H' → H d' = none → H o' = none → H w' = none → H b' = none → MdX H' d' o' w' b' m → Q (.ref d') H'
theorem cal__law_copy (T : Tp K mg) : Cal P w K mg base 2 "_law_copy" sp_copy := by
  obtain ⟨fd, F⟩ := f__law_copy T
  refine cal_of F (g__law_copy T) (b__law_copy F) sc__law_copy (fun vs H Q E h => ?_) (fun cdv A outer s H vs Q E hr h => ?_)
  · obtain ⟨d, m, rfl, _⟩ := h
    rfl
  · obtain ⟨d, m, rfl, M, q⟩ := h
    have hu := hu_of hr
    obtain ⟨o, u, b, ws, bs, h1, h2, h3, h4, h5, h6, h7⟩ := M.ex
    refine ⟨_, (pss_one (ps_ret (pe_disp (pps_cons pe_str (pe_dget hu (pv 0) pe_str (fun _ _ => rfl)) (pps_cons pe_str (pe_callTy call_list_of (by rfl) (z_list T) bb_list (pa_cons (pe_dget hu (pv 0) pe_str (fun _ _ => rfl)) pa_nil)) (pps_cons pe_str (pe_callTy call_list_of (by rfl) (z_list T) bb_list (pa_cons (pe_dget hu (pv 0) pe_str (fun _ _ => rfl)) pa_nil)) (pps_cons pe_str (pe_callTy call_list_of (by rfl) (z_list T) bb_list (pa_cons (pe_dget hu (pv 0) pe_str (fun _ _ => rfl)) pa_nil)) pps_nil)))) (by rfl) (by rfl) (fun z => by cases z) (by decide)))), ?_⟩
    refine fun p np => ?_
    have s0 := same_upd (o := .dK []) np
    refine ⟨_, rfl, d, _, rfl, mk_by (s0 _ _ h1), _, rfl, d, _, rfl, mk_own (s0 _ _ h1), o, _, rfl, .inl (.inl (.inl (s0 _ _ h2))), fun o' no => ?_⟩
    have s1 := s0.trans (same_upd (o := .lst (m.own.map V.str)) no)
    refine ⟨_, rfl, d, _, rfl, mk_wd (s1 _ _ h1), u, _, rfl, .inl (.inl (.inl (s1 _ _ h3))), fun u' nu => ?_⟩
    have s2 := s1.trans (same_upd (o := .lst ws) nu)
    refine ⟨_, rfl, d, _, rfl, mk_bd (s2 _ _ h1), b, _, rfl, .inl (.inl (.inl (s2 _ _ h5))), fun b' nb => ?_⟩
    have sa := same_upd (o := .lst (m.own.map V.str)) no
    have sb := same_upd (o := .lst ws) nu
    have sc := same_upd (o := .lst bs) nb
    have s3 := s2.trans sc
    have ep := sc _ _ (sb _ _ (sa _ _ (upd_same (H := H) (a := p) (o := .dK []))))
    have eo := sc _ _ (sb _ _ (upd_same (H := upd H p (.dK [])) (a := o') (o := .lst (m.own.map V.str))))
    have eu := sc _ _ (upd_same (H := upd (upd H p (.dK [])) o' (.lst (m.own.map V.str))) (a := u') (o := .lst ws))
    have eb := upd_same (H := upd (upd (upd H p (.dK [])) o' (.lst (m.own.map V.str))) u' (.lst ws)) (a := b') (o := .lst bs)
    have nop : o' ≠ p := (ne_of ep eo (by intro z; cases z)).symm
    have nup : u' ≠ p := (ne_of ep eu (by intro z; cases z)).symm
    have nbp : b' ≠ p := (ne_of ep eb (by intro z; cases z)).symm
    have nou : o' ≠ u' := ne_of_none upd_same nu
    have nob : o' ≠ b' := ne_of_none (sb _ _ upd_same) nb
    have nub : u' ≠ b' := ne_of_none upd_same nb
    refine ⟨ep, [(kBy, .int m.last), (kOwn, .ref o'), (kWd, .ref u'), (kBd, .ref b')], rfl, (by show 4 ≤ 15; decide), ?_⟩
    rw [mk_merge]
    have sF : Same H (upd (upd (upd (upd (upd H p (.dK [])) o' (.lst (m.own.map V.str))) u' (.lst ws)) b' (.lst bs)) p (.dK (mk m.last o' u' b'))) := same_put s3 np
    exact q p o' u' b' _ sF np (s0.free no) (s1.free nu) (s2.free nb) ⟨upd_same, by rw [upd_ne nop]; exact eo, ⟨ws, by rw [upd_ne nup]; exact eu, h4.keep (Kt.of sF)⟩, ⟨bs, by rw [upd_ne nbp]; exact eb, h6.keep (Kt.of sF)⟩, nou, nob, nub⟩
end
end Tw

set_option maxHeartbeats 4000000
namespace Tw
open PySem PySem.Spec PyProof.Rows L2
/-! asks.py: deaf webs and corners, and the law's own corners -/
/-- a walk's turns, whatever stands in them -/
theorem walk_ex {J : It} {n : Nat} {G : Hp → Prop} {Y : Nat → Hp → V → Hp → Prop} (w : Walk J n G Y) {Step : (Hp → Prop) → V → Hp → Prop} {H0 : Hp} {Qd : Hp → Prop} (Pv : Nat → Hp → Prop) (h0 : Pv 0 H0) (hG : ∀ i H, i ≤ n → Pv i H → G H)
    (hs : ∀ i x H H', i < n → Pv i H → Y i H x H' → Step (Pv (i + 1)) x H') (hd : ∀ H, Pv n H → Qd H) :
    ∃ W : Nat → Nat → Hp → Prop, (∃ m, W 0 m H0) ∧ ∀ i m H, W i m H → (J.stop i H ∧ Qd H) ∨ (J.go i H ∧ ∃ Nx : Hp → Prop, (∀ H', Nx H' → ∃ m', m' < m ∧ W (i + 1) m' H') ∧ ∀ x H', J.yld i H x H' → Step Nx x H') := by
  refine ⟨fun i m H => i + m = n ∧ Pv i H, ⟨n, Nat.zero_add n, h0⟩, fun i m H hW => ?_⟩
  obtain ⟨e, p⟩ := hW
  cases m with
  | zero =>
    have e : i = n := e
    subst e
    exact .inl ⟨w.stops H (hG i H (Nat.le_refl i) p), hd H p⟩
  | succ m =>
    have hi : i < n := by omega
    exact .inr ⟨w.goes i H hi (hG i H (Nat.le_of_lt hi) p), Pv (i + 1), fun H' p' => ⟨m, Nat.lt_succ_self m, by omega, p'⟩, fun x H' y => hs i x H H' hi p (w.yields i H x H' hi (hG i H (Nat.le_of_lt hi) p) y)⟩
abbrev kS (z : Str) : Key := .inr z
abbrev Kvs : Type := List (Key × V)
/-- the lengths of a span at its bounds -/
def ways (x : Wd) : List Int := if x.lo = x.hi then [x.lo] else [x.lo, x.hi]
def wider (f : List Kvs) (x : Wd) : List Kvs := f.flatMap fun kvs => (ways x).map fun v => putK kvs (kS x.en) (.int v)
def corn (wd : List Wd) : List Kvs := wd.foldl wider [[]]
/-- dicts that stand in a list, all of them new since H0 -/
def DLs (H0 H : Hp) (xs : List V) (L : List Kvs) : Prop := Paired (fun v kvs => ∃ d, v = V.ref d ∧ H d = some (.dK kvs) ∧ H0 d = none) xs L
theorem DLs.same {H0 H H' : Hp} {xs : List V} {L : List Kvs} (h : DLs H0 H xs L) (s : Same H H') : DLs H0 H' xs L := Paired.mono (fun _ _ ⟨d, e, q, n⟩ => ⟨d, e, s _ _ q, n⟩) h
theorem paired_atD {α β : Type} {R : α → β → Prop} : ∀ {xs : List α} {ys : List β}, Paired R xs ys → ∀ {i : Nat} {x : α}, xs[i]? = some x → ∃ y, ys[i]? = some y ∧ R x y
  | _, _, .nil, _, _, e => by cases e
  | _, _, .cons h t, 0, _, e => by
    cases e
    exact ⟨_, rfl, h⟩
  | _, _, .cons h t, i + 1, _, e => paired_atD t (i := i) e
theorem paired_snoc {α β : Type} {R : α → β → Prop} : ∀ {xs : List α} {ys : List β} {x : α} {y : β}, Paired R xs ys → R x y → Paired R (xs ++ [x]) (ys ++ [y])
  | _, _, _, _, .nil, h => .cons h .nil
  | _, _, _, _, .cons h t, h' => .cons h (paired_snoc t h')
/-- all are small, of ints, and no key stands twice -/
structure Small (n : Nat) (ks : List Str) (kvs : Kvs) : Prop where
  len : kvs.length ≤ n
  int : ∀ k v, valV kvs k = some v → ∃ i : Int, v = .int i
  key : ∀ p ∈ kvs, ∃ z ∈ ks, p.1 = kS z
  nod : (kvs.map (·.1)).Nodup
theorem put_new {kvs : Kvs} {k : Key} {v : V} (h : ¬ k ∈ kvs.map (·.1)) : putK kvs k v = kvs ++ [(k, v)] := by
  unfold putK
  rw [if_neg]
  intro a
  obtain ⟨p, hp, e⟩ := List.any_eq_true.mp a
  exact h (List.mem_map.mpr ⟨p, hp, of_decide_eq_true e⟩)
theorem merge_app : ∀ {more acc : Kvs}, ((acc ++ more).map (·.1)).Nodup → mergeK acc more = acc ++ more
  | [], acc, _ => by rw [List.append_nil]; rfl
  | p :: r, acc, h => by
    have n : ¬ p.1 ∈ acc.map (·.1) := fun hm => by
      rw [List.map_append] at h
      exact (List.nodup_append.mp h).2.2 _ hm _ List.mem_cons_self rfl
    show mergeK (putK acc p.1 p.2) r = _
    rw [put_new n, merge_app (by rw [List.append_assoc]; exact h), List.append_assoc]
    rfl
theorem Small.merge {n : Nat} {ks : List Str} {kvs : Kvs} (h : Small n ks kvs) : mergeK [] kvs = kvs := merge_app (acc := []) h.nod
theorem Small.put {n : Nat} {ks : List Str} {kvs : Kvs} {z : Str} {i : Int} (h : Small n ks kvs) (hz : ¬ z ∈ ks) : Small (n + 1) (ks ++ [z]) (putK kvs (kS z) (.int i)) := by
  have out : ¬ kS z ∈ kvs.map (·.1) := fun hm => by
    obtain ⟨p, hp, e⟩ := List.mem_map.mp hm
    obtain ⟨y, hy, e2⟩ := h.key p hp
    rw [e2] at e
    exact hz (by rw [← Sum.inr.inj e]; exact hy)
  refine ⟨?_, fun k v e => ?_, fun p hp => ?_, ?_⟩
  · rw [put_new out, List.length_append]
    exact Nat.succ_le_succ h.len
  · rw [valV_put] at e
    by_cases c : k = kS z
    · rw [if_pos c] at e
      exact ⟨i, (Option.some.inj e).symm⟩
    · rw [if_neg c] at e
      exact h.int k v e
  · rw [put_new out] at hp
    rcases List.mem_append.mp hp with hp | hp
    · obtain ⟨y, hy, e⟩ := h.key p hp
      exact ⟨y, List.mem_append_left _ hy, e⟩
    · rw [List.mem_singleton.mp hp]
      exact ⟨z, List.mem_append_right _ List.mem_cons_self, rfl⟩
  · rw [put_new out, List.map_append]
    refine List.nodup_append.mpr ⟨h.nod, List.nodup_cons.mpr ⟨List.not_mem_nil, List.nodup_nil⟩, fun x hx y hy e => ?_⟩
    rw [List.mem_singleton.mp hy] at e
    rw [e] at hx
    exact out hx
theorem corn_small : ∀ {wd pre : List Wd} {f : List Kvs}, ((pre ++ wd).map (·.en)).Nodup → (∀ k ∈ f, Small pre.length (pre.map (·.en)) k) → ∀ k ∈ wd.foldl wider f, Small (pre ++ wd).length ((pre ++ wd).map (·.en)) k
  | [], pre, f, _, h => by
    rw [List.append_nil]
    exact h
  | x :: r, pre, f, nd, h => by
    have hz : ¬ x.en ∈ pre.map (·.en) := fun hm => by
      rw [List.map_append] at nd
      exact (List.nodup_append.mp nd).2.2 _ hm _ List.mem_cons_self rfl
    have h' : ∀ k ∈ wider f x, Small (pre ++ [x]).length ((pre ++ [x]).map (·.en)) k := fun k hk => by
      obtain ⟨kvs, h1, h2⟩ := List.mem_flatMap.mp hk
      obtain ⟨v, _, rfl⟩ := List.mem_map.mp h2
      rw [List.length_append, List.map_append]
      exact (h kvs h1).put hz
    have e : pre ++ x :: r = (pre ++ [x]) ++ r := by rw [List.append_assoc]; rfl
    rw [e] at nd ⊢
    exact corn_small nd h'
theorem small0 : ∀ k ∈ ([[]] : List Kvs), Small ([] : List Wd).length (([] : List Wd).map (·.en)) k := fun k hk => by
  rw [List.mem_singleton.mp hk]
  exact ⟨Nat.le_refl _, fun k v e => (by cases e), fun p hp => (nomatch hp), List.nodup_nil⟩
theorem ways_len (x : Wd) : (ways x).length ≤ 2 := by
  unfold ways
  by_cases e : x.lo = x.hi
  · rw [if_pos e]
    show 1 ≤ 2
    decide
  · rw [if_neg e]
    exact Nat.le_refl 2
theorem wider_len (f : List Kvs) (x : Wd) : (wider f x).length ≤ 2 * f.length := by
  unfold wider
  induction f with
  | nil => exact Nat.le_refl 0
  | cons a r ih =>
    rw [List.flatMap_cons, List.length_append, List.length_map, List.length_cons]
    have := ways_len x
    omega
theorem corn_len : ∀ (wd : List Wd) (f : List Kvs), (wd.foldl wider f).length ≤ 2 ^ wd.length * f.length
  | [], f => by
    show f.length ≤ 1 * f.length
    omega
  | x :: r, f => by
    have h1 := corn_len r (wider f x)
    have h2 := wider_len f x
    show (r.foldl wider (wider f x)).length ≤ 2 ^ (r.length + 1) * f.length
    rw [Nat.pow_succ, Nat.mul_assoc]
    exact Nat.le_trans h1 (Nat.mul_le_mul_left _ h2)
/-- the web with none of its ends ever heard -/
def deafW (x : Wd) : Wd := { x with la := none }
def Md.deaf (m : Md) : Md := { m with wd := m.wd.map deafW }
section
variable {P : Program} {w : World} {K : PySem.W.Frag} {mg : Str → Option Value} {base : Heap}
/-! ### woven of three lists, with_spans, deaf -/
def sp_wovenA (K : PySem.W.Frag) : Sp := fun vs H Q _ => ∃ (m : Md) (a b c : Addr) (ws bs : List V), vs = [.int m.last, .ref a, .ref b, .ref c] ∧ H a = some (.lst (m.own.map V.str)) ∧ H b = some (.lst ws) ∧ Rows H ws (m.wd.map Wd.row) ∧ H c = some (.lst bs) ∧ Rows H bs (m.bd.map Bd.row) ∧
  (m.own.length ≤ 10 ∧ m.wd.length ≤ 4 ∧ m.bd.length ≤ 40) ∧ (1 ≤ m.last ∧ m.last ≤ 1000) ∧ ∀ (p : Addr) (H' : Hp), Same H H' → H p = none → WebAt (CW K) H' p m → Q (.ref p) H'
theorem cal_wovenA (T : Tp K mg) : Cal P w K mg base 5 "woven" (sp_wovenA K) := by
  obtain ⟨fd, F⟩ := f_woven T
  refine cal_of F (g_woven T) (b_woven F) sc_woven (fun vs H Q E h => ?_) (fun cdv A outer s H vs Q E hr h => ?_)
  · obtain ⟨m, a, b, c, ws, bs, rfl, _⟩ := h
    rfl
  · obtain ⟨m, a, b, c, ws, bs, rfl, ha, hb, rb, hc, rc, hl, hla, q⟩ := h
    refine ⟨_, (pss_cons (ps_set (i := 4) sc_woven.nd rfl (.inl rfl) (C8.pe_mk (mak_Web T) hr (by decide) rfl (pa_cons (pv 0) pa_nil)))
      (pss_cons (ps_fld (pv 4) (pe_callTy call_tuple_of (by rfl) (z_tuple T) bb_tuple (pa_cons (pv 1) pa_nil)) rfl)
      (pss_cons (ps_fld (pv 4) (pe_callTy call_tuple_of (by rfl) (z_tuple T) bb_tuple (pa_cons (pv 2) pa_nil)) rfl)
      (pss_cons (ps_fld (pv 4) (pe_callTy call_tuple_of (by rfl) (z_tuple T) bb_tuple (pa_cons (pv 3) pa_nil)) rfl)
      (pss_one (ps_ret (pv 4))))))), ?_⟩
    refine ⟨_, rfl, fun x dx nx ndx ne => ⟨x, dx, m.last, rfl, upd_same, hla.1, hla.2, fun a0 b0 c0 H1 kp hp ha0 hb0 hc0 => ⟨rfl, ?_⟩⟩⟩
    have s1 : Same H H1 := Same.made nx ndx kp
    refine ⟨_, rfl, a, _, rfl, .inl ⟨.inl (.inl (s1 _ _ ha)), fun ta nta => ?_⟩⟩
    have nxa : x ≠ ta := ne_of_none hp nta
    refine ⟨_, rfl, x, CW K, dx, _, rfl, (by rw [upd_ne nxa]; exact hp), cl_Web T, na_moment_rows T, (by show 4 < 1000; decide), ?_⟩
    rw [wf_pm]
    have s2 : Same H (upd (upd H1 ta (.tup (m.own.map V.str))) x (.ins (CW K) dx (wf m.last ta b0 c0))) := same_put (s1.trans (same_upd nta)) nx
    have e2 : upd (upd H1 ta (.tup (m.own.map V.str))) x (.ins (CW K) dx (wf m.last ta b0 c0)) x = some (.ins (CW K) dx (wf m.last ta b0 c0)) := upd_same
    have t2 : upd (upd H1 ta (.tup (m.own.map V.str))) x (.ins (CW K) dx (wf m.last ta b0 c0)) ta = some (.tup (m.own.map V.str)) := by
      rw [upd_ne nxa.symm]
      exact upd_same
    generalize upd (upd H1 ta (.tup (m.own.map V.str))) x (.ins (CW K) dx (wf m.last ta b0 c0)) = H2 at s2 e2 t2 ⊢
    refine ⟨_, rfl, b, _, rfl, .inl ⟨.inl (.inl (s2 _ _ hb)), fun tb ntb => ?_⟩⟩
    have nxb : x ≠ tb := ne_of_none e2 ntb
    refine ⟨_, rfl, x, CW K, dx, _, rfl, (by rw [upd_ne nxb]; exact e2), cl_Web T, na_span_rows T, (by show 4 < 1000; decide), ?_⟩
    rw [wf_ps]
    have s3 : Same H (upd (upd H2 tb (.tup ws)) x (.ins (CW K) dx (wf m.last ta tb c0))) := same_put (s2.trans (same_upd ntb)) nx
    have e3 : upd (upd H2 tb (.tup ws)) x (.ins (CW K) dx (wf m.last ta tb c0)) x = some (.ins (CW K) dx (wf m.last ta tb c0)) := upd_same
    have t3 : upd (upd H2 tb (.tup ws)) x (.ins (CW K) dx (wf m.last ta tb c0)) ta = some (.tup (m.own.map V.str)) := by
      rw [upd_ne nxa.symm, upd_ne (ne_of_none t2 ntb)]
      exact t2
    have u3 : upd (upd H2 tb (.tup ws)) x (.ins (CW K) dx (wf m.last ta tb c0)) tb = some (.tup ws) := by
      rw [upd_ne nxb.symm]
      exact upd_same
    generalize upd (upd H2 tb (.tup ws)) x (.ins (CW K) dx (wf m.last ta tb c0)) = H3 at s3 e3 t3 u3 ⊢
    refine ⟨_, rfl, c, _, rfl, .inl ⟨.inl (.inl (s3 _ _ hc)), fun tc ntc => ?_⟩⟩
    have nxc : x ≠ tc := ne_of_none e3 ntc
    refine ⟨_, rfl, x, CW K, dx, _, rfl, (by rw [upd_ne nxc]; exact e3), cl_Web T, na_tie_rows T, (by show 4 < 1000; decide), ?_⟩
    rw [wf_pt]
    have s4 : Same H (upd (upd H3 tc (.tup bs)) x (.ins (CW K) dx (wf m.last ta tb tc))) := same_put (s3.trans (same_upd ntc)) nx
    refine ⟨_, rfl, q x _ s4 nx ⟨⟨dx, ta, tb, tc, ws, bs, upd_same, ?_, ?_, rb.keep (Kt.of s4), ?_, rc.keep (Kt.of s4)⟩, hl, hla⟩⟩
    · rw [upd_ne nxa.symm, upd_ne (ne_of_none t3 ntc)]
      exact t3
    · rw [upd_ne nxb.symm, upd_ne (ne_of_none u3 ntc)]
      exact u3
    · rw [upd_ne nxc.symm]
      exact upd_same
def sp_with_spans (K : PySem.W.Frag) : Sp := fun vs H Q _ => ∃ (p l : Addr) (m : Md) (wd : List Wd) (ws : List V), vs = [.ref p, .ref l] ∧ WebAt (CW K) H p m ∧ H l = some (.lst ws) ∧ Rows H ws (wd.map Wd.row) ∧ wd.length ≤ 4 ∧ ∀ (q : Addr) (H' : Hp), Same H H' → H q = none → WebAt (CW K) H' q { m with wd := wd } → Q (.ref q) H'
theorem cal_with_spans (T : Tp K mg) : Cal P w K mg base 6 "with_spans" (sp_with_spans K) := by
  obtain ⟨fd, F⟩ := f_with_spans T
  refine cal_of F (g_with_spans T) (b_with_spans F) sc_with_spans (fun vs H Q E h => ?_) (fun cdv A outer s H vs Q E hr h => ?_)
  · obtain ⟨p, l, m, wd, ws, rfl, _⟩ := h
    rfl
  · obtain ⟨p, l, m, wd, ws, rfl, W, hl, R, few, q⟩ := h
    have hlen := W.len
    obtain ⟨dx, a, b, c, ws0, bs0, h1, _⟩ := W.ex
    refine ⟨_, (pss_one (ps_ret (C8.pe_c (cal_wovenA T) hr (by decide) rfl (pa_cons (pe_fld (pv 0) rfl) (pa_cons (C8.pe_mt0 (met_Web_moments T) hr (by decide) (pv 0)) (pa_cons (pv 1) (pa_cons (C8.pe_mt0 (met_Web_ties T) hr (by decide) (pv 0)) pa_nil))))))), ?_⟩
    refine ⟨_, rfl, p, CW K, dx, _, _, rfl, h1, cl_Web T, na_by T, wf_by, _, rfl, p, dx, _, rfl, h1, wf_no (by decide +kernel), p, m, rfl, W, fun k nk => ?_⟩
    have s1 := same_upd (o := .lst (m.own.map V.str)) nk
    refine ⟨_, rfl, _, rfl, p, dx, _, rfl, s1 _ _ h1, wf_no (by decide +kernel), p, m, rfl, W.same s1, fun bs j Rb nj => ?_⟩
    have s2 := same_upd (o := .lst bs) nj
    have s3 := s1.trans s2
    exact ⟨{ m with wd := wd }, k, l, j, ws, bs, rfl, s2 _ _ upd_same, s3 _ _ hl, R.keep (Kt.of s3), upd_same, Rb.keep (Kt.of s2), ⟨hlen.1, few, hlen.2.2⟩, W.last, fun x H5 s6 nx W5 => q x H5 (s3.trans s6) (s3.free nx) W5⟩
def sp_deaf (K : PySem.W.Frag) : Sp := fun vs H Q _ => ∃ (p : Addr) (m : Md), vs = [.ref p] ∧ WebAt (CW K) H p m ∧ ∀ (q : Addr) (H' : Hp), Same H H' → H q = none → WebAt (CW K) H' q m.deaf → Q (.ref q) H'
theorem cal_deaf (T : Tp K mg) : Cal P w K mg base 7 "deaf" (sp_deaf K) := by
  obtain ⟨fd, F⟩ := f_deaf T
  refine cal_of F (g_deaf T) (b_deaf F) sc_deaf (fun vs H Q E h => ?_) (fun cdv A outer s H vs Q E hr h => ?_)
  · obtain ⟨p, m, rfl, _⟩ := h
    rfl
  · obtain ⟨p, m, rfl, W, q⟩ := h
    have hlen := W.len
    obtain ⟨dx, a, b, c, ws0, bs0, h1, _⟩ := W.ex
    refine ⟨_, (pss_one (ps_ret (C8.pe_c (cal_with_spans T) hr (by decide) rfl (pa_cons (pv 0) (pa_cons (pe_lc (own := [("end", 1), ("begin", 2), ("low", 3), ("high", 4), ("late", 5)]) (tt := tYes) rfl sc_deaf.nd (pi_list (C8.pe_mt0 (met_Web_spans T) hr (by decide) (pv 0))) (blkOk_by (N := N_deaf) (sc := defScope s_deaf) (by decide +kernel)) (fun _ _ _ _ _ => (pg_tupK (K := K) (n := 5) rfl rfl (pgs_cons (pg_name (i := 1) sc_deaf.nd rfl (.inl rfl)) (pgs_cons (pg_name (i := 2) sc_deaf.nd rfl (.inl rfl)) (pgs_cons (pg_name (i := 3) sc_deaf.nd rfl (.inl rfl)) (pgs_cons (pg_name (i := 4) sc_deaf.nd rfl (.inl rfl)) (pgs_cons (pg_name (i := 5) sc_deaf.nd rfl (.inl rfl)) pgs_nil))))))) (fun _ _ _ _ _ => pts_nil) (fun _ _ _ _ _ => (pe_tup (pa_cons (pv 1) (pa_cons (pv 2) (pa_cons (pv 3) (pa_cons (pv 4) (pa_cons pe_non pa_nil)))))))) pa_nil))))), ?_⟩
    refine ⟨_, rfl, _, rfl, p, dx, _, rfl, h1, wf_no (by decide +kernel), p, m, rfl, W, fun ws l R nl => ⟨l, rfl, ⟨_, .inl (.inl upd_same)⟩, fun D nD => ?_⟩⟩
    have s0 := same_upd (o := .lst ws) nl
    refine lc_pure m.wd (walk_listN (by rw [R.len, List.length_map])) (fun x => some (deafW x)) (SR Wd.row) sr_k nD (by omega) (fun H1 s1 => .inl (.inl (s1 _ _ upd_same))) ?_ ?_
    · rintro i x v H1 H1' ex s1 ⟨rfl, hv⟩ Good Bad kt kf
      obtain ⟨t, rfl, ht⟩ := rows_at R hv ex
      refine ⟨t, x.row, rfl, .inl (.inl (s1 _ _ (s0 _ _ ht))), rfl, _, _, rfl, _, _, rfl, _, _, rfl, _, _, rfl, _, _, rfl, rfl, rfl, yes_i (iteT ⟨_, rfl, _, rfl, _, rfl, _, rfl, (by show 5 ≤ sizeLine; decide), fun u nu => ?_⟩)⟩
      exact kt _ _ _ rfl (same_upd nu) ⟨u, rfl, upd_same⟩
    · intro H2 acc s2 d2 p2
      rw [show (m.wd.filterMap fun x => some (deafW x)) = m.wd.map deafW from List.filterMap_eq_map ▸ rfl] at p2
      have r2 := paired_rows p2
      have s3 := s0.trans s2
      refine ⟨p, D, m, m.wd.map deafW, acc, rfl, W.same s3, d2, r2, by rw [List.length_map]; omega, fun x H5 s6 nx W5 => q x H5 (s3.trans s6) (s3.free nx) W5⟩
end
end Tw

set_option maxHeartbeats 4000000
namespace Tw
open PySem PySem.Spec PyProof.Rows L2
section
variable {P : Program} {w : World} {K : PySem.W.Frag} {mg : Str → Option Value} {base : Heap}
/-! ### corners -/
def sp_corners (K : PySem.W.Frag) : Sp := fun vs H Q _ => ∃ (p : Addr) (m : Md), vs = [.ref p] ∧ WebAt (CW K) H p m ∧ (m.wd.map (·.en)).Nodup ∧ ∀ (l : Addr) (xs : List V) (H' : Hp), Same H H' → H l = none → H' l = some (.lst xs) → DLs H H' xs (corn m.wd) → Q (.ref l) H'
theorem DLs.lst {H0 H : Hp} {xs ys : List V} {L : List Kvs} {D : Addr} {o : HO} (h : DLs H0 H xs L) (hD : H D = some (.lst ys)) : DLs H0 (upd H D o) xs L := Paired.mono (fun _ _ ⟨d, e, q, n⟩ => ⟨d, e, by rw [upd_ne (ne_of q hD (by intro z; cases z))]; exact q, n⟩) h
theorem corn_take {wd : List Wd} {i : Nat} {x : Wd} (e : wd[i]? = some x) : corn (wd.take (i + 1)) = wider (corn (wd.take i)) x := by
  unfold corn
  rw [List.take_add_one, e, List.foldl_append]
  rfl
theorem small_take {wd : List Wd} (nd : (wd.map (·.en)).Nodup) (i : Nat) : ∀ k ∈ corn (wd.take i), Small (wd.take i).length ((wd.take i).map (·.en)) k := by
  have h := corn_small (wd := wd.take i) (pre := []) (f := [[]]) (by rw [List.nil_append, List.map_take]; exact List.Sublist.nodup (List.take_sublist _ _) nd) small0
  rw [List.nil_append] at h
  exact h
theorem flat_take {L : List Kvs} {i : Nat} {kvs : Kvs} {x : Wd} (e : L[i]? = some kvs) : wider (L.take (i + 1)) x = wider (L.take i) x ++ (ways x).map fun v => putK kvs (kS x.en) (.int v) := by
  unfold wider
  rw [List.take_add_one, e, List.flatMap_append]
  congr 1
  show List.flatMap _ [kvs] = _
  rw [List.flatMap_cons, List.flatMap_nil, List.append_nil]
theorem cal_corners (T : Tp K mg) : Cal P w K mg base 3 "corners" (sp_corners K) := by
  obtain ⟨fd, F⟩ := f_corners T
  refine cal_of F (g_corners T) (b_corners F) sc_corners (fun vs H Q E h => ?_) (fun cdv A outer s H vs Q E hr h => ?_)
  · obtain ⟨p, m, rfl, _⟩ := h
    rfl
  · obtain ⟨p, m, rfl, W, nd, q⟩ := h
    have hlen := W.len
    obtain ⟨dx, a, b, c, ws0, bs0, h1, _⟩ := W.ex
    refine ⟨_, (pss_cons (ps_set (i := 1) sc_corners.nd rfl (.inl rfl) (pe_lst (pa_cons pe_dnewK pa_nil)))
      (pss_cons (ps_for PassesOwn.never rfl (pi_list (C8.pe_mt0 (met_Web_spans T) hr (by decide) (pv 0))) (pg_tup rfl (pgs_cons (pg_name (i := 2) sc_corners.nd rfl (.inr rfl)) (pgs_cons (pg_name (i := 3) sc_corners.nd rfl (.inl rfl)) (pgs_cons (pg_name (i := 4) sc_corners.nd rfl (.inl rfl)) (pgs_cons (pg_name (i := 5) sc_corners.nd rfl (.inl rfl)) (pgs_cons (pg_name (i := 6) sc_corners.nd rfl (.inl rfl)) pgs_nil))))))
        (C8.pss_cut (ps_set (i := 7) sc_corners.nd rfl (.inr rfl) (pe_ifExp (pt_cmpR op_eq (pv 4) (pv 5) (nomark _)) (pe_lst (pa_cons (pv 4) pa_nil)) (pe_lst (pa_cons (pv 4) (pa_cons (pv 5) pa_nil)))))
        (pss_one (ps_setLc2 (i := 1) (own := [("lengths", 8), ("length", 9)]) (vs1 := [9]) (g := gName 8) (g1 := gName 9) (tt := tYes) (tt1 := tYes) rfl sc_corners.nd rfl rfl (sw_true rfl rfl rfl (by decide +kernel)) (pi_list (pv 1)) (blkOk_by (N := N_corners) (sc := defScope s_corners) (by decide +kernel)) (by decide) (fun _ _ _ _ _ => (pg_name (i := 8) sc_corners.nd rfl (.inl rfl))) (fun _ _ _ _ _ => pts_nil) (fun _ _ _ _ _ => (pi_listK (K := K) rfl (pv 7))) (fun _ _ _ _ _ => (pg_name (i := 9) sc_corners.nd rfl (.inl rfl))) (fun _ _ _ _ _ => pts_nil) (fun _ _ _ _ _ => (pe_starP (pv 8) (pps_cons (pv 2) (pv 9) pps_nil)))))))
      (pss_one (ps_ret (pv 1))))), ?_⟩
    refine fun e0 ne0 => ⟨by show 1 ≤ sizeLine; decide, fun l0 nl0 => ?_⟩
    have s0 := (same_upd (o := .dK []) ne0).trans (same_upd (o := .lst [.ref e0]) nl0)
    have n0 : H l0 = none := (same_upd (o := .dK []) ne0).free nl0
    have D0 : DLs H (upd (upd H e0 (.dK [])) l0 (.lst [.ref e0])) [.ref e0] (corn (m.wd.take 0)) := .cons ⟨e0, rfl, same_upd (o := .lst [.ref e0]) nl0 _ _ upd_same, ne0⟩ .nil
    have hl0 : upd (upd H e0 (.dK [])) l0 (.lst [.ref e0]) l0 = some (.lst [.ref e0]) := upd_same
    generalize upd (upd H e0 (.dK [])) l0 (.lst [.ref e0]) = H0 at s0 D0 hl0 ⊢
    refine ⟨_, rfl, p, dx, _, rfl, s0 _ _ h1, wf_no (by decide +kernel), p, m, rfl, W.same s0, fun ws L R nL => ⟨L, rfl, ⟨_, .inl (.inl upd_same)⟩, ?_⟩⟩
    have sL := same_upd (o := .lst ws) nL
    have R1 := R.keep (Kt.of sL)
    have hL : upd H0 L (.lst ws) L = some (.lst ws) := upd_same
    have D1 := D0.same sL
    have hl1 := sL _ _ hl0
    have sHL := s0.trans sL
    generalize upd H0 L (.lst ws) = H1 at sL R1 hL D1 hl1 sHL ⊢
    refine for_list (K := K) (a := L) (xs := ws) (fun i σ H' => ∃ (f : Addr) (xs : List V) (y2 y3 y4 y5 y6 y7 : Option V), σ = [some (.ref p), some (.ref f), y2, y3, y4, y5, y6, y7, none, none] ∧ Same H1 H' ∧ H f = none ∧ H' f = some (.lst xs) ∧ DLs H H' xs (corn (m.wd.take i))) ⟨l0, [.ref e0], none, none, none, none, none, none, rfl, Same.refl _, n0, hl1, D1⟩ (fun i σ H' _ ⟨_, _, _, _, _, _, _, _, _, s, _⟩ => .inl (.inl (s _ _ hL))) ?_ ?_
    · rintro i v σ H2 hv ⟨f, xs, y2, y3, y4, y5, y6, y7, rfl, s2, nf, hf, DL⟩
      obtain ⟨t, x, rfl, ex, ht⟩ := row_of R1 hv
      have hi : i < m.wd.length := (List.getElem?_eq_some_iff.mp ex).1
      refine ⟨t, x.row, rfl, .inl (.inl (s2 _ _ ht)), rfl, _, _, rfl, _, _, rfl, _, _, rfl, _, _, rfl, _, _, rfl, rfl, ?_⟩
      refine ⟨fun σ' H' => ∃ g : Addr, σ' = [some (.ref p), some (.ref f), some (.str x.en), some (.str x.bg), some (.int x.lo), some (.int x.hi), some (oV x.la), some (.ref g), none, none] ∧ Same H2 H' ∧ H' g = some (.lst ((ways x).map V.int)), ?_, ?_⟩
      · refine ⟨_, rfl, _, rfl, rfl, _, rfl, ?_⟩
        by_cases c : x.lo = x.hi
        · rw [decide_eq_true (show V.int x.lo = V.int x.hi by rw [c])]
          refine iteT ⟨_, rfl, (by show 1 ≤ sizeLine; decide), fun g ng => ⟨g, rfl, same_upd ng, ?_⟩⟩
          rw [upd_same]
          unfold ways
          rw [if_pos c]
          rfl
        · rw [decide_eq_false (show ¬ V.int x.lo = V.int x.hi from fun z => c (V.int.inj z))]
          refine iteF ⟨_, rfl, _, rfl, (by show 2 ≤ sizeLine; decide), fun g ng => ⟨g, rfl, same_upd ng, ?_⟩⟩
          rw [upd_same]
          unfold ways
          rw [if_neg c]
          rfl
      · rintro σ' H3 ⟨g, rfl, s3, hg⟩
        have hf3 := s3 _ _ hf
        have DL3 := DL.same s3
        have sH3 := (sHL.trans s2).trans s3
        have sm := small_take nd i
        have lc : (corn (m.wd.take i)).length ≤ 16 := by
          have h := corn_len (m.wd.take i) [[]]
          have h2 : 2 ^ (m.wd.take i).length ≤ 2 ^ 4 := Nat.pow_le_pow_right (by decide) (by rw [List.length_take]; omega)
          have h3 : ([[]] : List Kvs).length = 1 := rfl
          rw [h3, Nat.mul_one] at h
          exact Nat.le_trans h h2
        have lx : xs.length = (corn (m.wd.take i)).length := DL.length
        have lw : (wider (corn (m.wd.take i)) x).length ≤ 32 := by
          have := wider_len (corn (m.wd.take i)) x
          omega
        refine ⟨_, rfl, f, rfl, ⟨_, .inl (.inl hf3)⟩, fun D nD => ?_⟩
        refine walk_ex (walk_list (K := K) (a := f) (xs := xs)) (fun j H' => Same H3 H' ∧ ∃ ys, H' D = some (.lst ys) ∧ DLs H H' ys (wider ((corn (m.wd.take i)).take j) x)) ⟨same_upd nD, [], upd_same, .nil⟩ (fun j H' _ h => .inl (.inl (h.1 _ _ hf3))) ?_ ?_
        · rintro j v H4 H4' hj ⟨s4, ys, hD4, DY⟩ ⟨rfl, hv⟩
          obtain ⟨kvs, ek, d0, rfl, hd0, nd0⟩ := paired_atD DL3 hv
          have ks := sm kvs (List.mem_of_getElem? ek)
          refine ⟨rfl, yes_i (iteT ⟨_, rfl, g, rfl, ⟨_, .inl (.inl (s4 _ _ hg))⟩, ?_⟩)⟩
          have few2 := ways_len x
          refine walk_ex (walk_list (K := K) (a := g) (xs := (ways x).map V.int)) (fun k H' => Same H3 H' ∧ ∃ ys, H' D = some (.lst ys) ∧ DLs H H' ys (wider ((corn (m.wd.take i)).take j) x ++ ((ways x).take k).map fun v => putK kvs (kS x.en) (.int v))) ⟨s4, ys, hD4, by rw [List.take_zero, List.map_nil, List.append_nil]; exact DY⟩ (fun k H' _ h => .inl (.inl (h.1 _ _ hg))) ?_ ?_
          · rintro k v H5' H5 hk ⟨s5, ys, hD5, DY5⟩ ⟨rfl, hv⟩
            obtain ⟨i0, ei, rfl⟩ : ∃ i0, (ways x)[k]? = some i0 ∧ v = .int i0 := by
              rw [List.getElem?_map] at hv
              cases e : (ways x)[k]? with
              | none =>
                rw [e] at hv
                cases hv
              | some z =>
                rw [e] at hv
                cases hv
                exact ⟨z, rfl, rfl⟩
            refine ⟨rfl, yes_i (iteT (fun d nd5 => ?_))⟩
            have hd5 := s5 _ _ hd0
            have sa := same_upd (o := .dK []) nd5
            have kl : kvs.length < 1000 := by
              have h := ks.len
              rw [List.length_take] at h
              omega
            refine ⟨_, rfl, d0, kvs, rfl, (ne_of_none hd5 nd5).symm, sa _ _ hd5, upd_same, kl, ?_⟩
            rw [ks.merge]
            have sb : Same H5 (upd (upd H5 d (.dK [])) d (.dK kvs)) := same_put sa nd5
            have eb : upd (upd H5 d (.dK [])) d (.dK kvs) d = some (.dK kvs) := upd_same
            generalize upd (upd H5 d (.dK [])) d (.dK kvs) = H6 at sb eb ⊢
            refine fun e ne6 => ?_
            have nde : d ≠ e := ne_of_none eb ne6
            refine ⟨_, rfl, _, rfl, kS x.en, rfl, upd_same, by rw [upd_ne nde]; exact eb, nde, ?_⟩
            have sF : Same H5 (upd (upd (upd H6 e (.dK [])) e (.dK [(kS x.en, .int i0)])) d (.dK (putK kvs (kS x.en) (.int i0)))) := same_put (same_put (sb.trans (same_upd ne6)) (sb.free ne6)) nd5
            have hF : upd (upd (upd H6 e (.dK [])) e (.dK [(kS x.en, .int i0)])) d (.dK (putK kvs (kS x.en) (.int i0))) d = some (.dK (putK kvs (kS x.en) (.int i0))) := upd_same
            generalize upd (upd (upd H6 e (.dK [])) e (.dK [(kS x.en, .int i0)])) d (.dK (putK kvs (kS x.en) (.int i0))) = H7 at sF hF ⊢
            have hD7 := sF _ _ hD5
            have ly : ys.length ≤ 40 := by
              have h1 : ys.length = _ := DY5.length
              have h2 := wider_len ((corn (m.wd.take i)).take j) x
              rw [h1, List.length_append, List.length_map, List.length_take]
              rw [List.length_take] at h2
              omega
            refine ⟨ys, hD7, small1000 (by omega), same_put (s5.trans sF) nD, ys ++ [.ref d], upd_same, ?_⟩
            rw [List.take_add_one, ei, List.map_append, ← List.append_assoc]
            refine paired_snoc ((DY5.same sF).lst hD7) ⟨d, rfl, ?_, (sH3.trans s5).free nd5⟩
            rw [upd_ne (ne_of hF hD7 (by intro z; cases z))]
            exact hF
          · rintro H5 ⟨s5, ys, hD5, DY5⟩
            refine ⟨s5, ys, hD5, ?_⟩
            rw [flat_take ek]
            rw [List.length_map, List.take_length] at DY5
            exact DY5
        · rintro H4 ⟨s4, ys, hD4, DY⟩
          rw [lx, List.take_length] at DY
          refine ⟨D, ys, _, _, _, _, _, _, rfl, (s2.trans s3).trans s4, sH3.free nD, hD4, ?_⟩
          rw [corn_take ex]
          exact DY
    · rintro σ H2 ⟨f, xs, y2, y3, y4, y5, y6, y7, rfl, s2, nf, hf, DL⟩
      have lw : ws.length = m.wd.length := by rw [R.len, List.length_map]
      rw [lw, List.take_length] at DL
      exact ⟨_, rfl, q f xs H2 (sHL.trans s2) nf hf DL⟩
/-! ### the law's own -/
theorem corn_klen : ∀ (wd : List Wd) (f : List Kvs) (n : Nat), (∀ k ∈ f, k.length ≤ n) → ∀ k ∈ wd.foldl wider f, k.length ≤ n + wd.length
  | [], f, n, h => h
  | x :: r, f, n, h => fun k hk => by
    have h' : ∀ k ∈ wider f x, k.length ≤ n + 1 := fun k hk => by
      obtain ⟨kvs, h1, h2⟩ := List.mem_flatMap.mp hk
      obtain ⟨v, _, rfl⟩ := List.mem_map.mp h2
      have := length_putK kvs (kS x.en) (.int v)
      have := h kvs h1
      omega
    have := corn_klen r (wider f x) (n + 1) h' k hk
    show k.length ≤ n + (r.length + 1)
    omega
theorem cut_two {a b : V} {c : Bool} : cutV [a, b] none (some (1 + if c = true then 1 else 0)) = if c = true then [a, b] else [a] := by
  cases c
  · rfl
  · rfl
def sp_lcorn : Sp := fun vs H Q _ => ∃ (d : Addr) (m : Md), vs = [.ref d] ∧ MdAt H d m ∧ m.wd.length ≤ 4 ∧ (∀ x ∈ m.wd, x.lo ≤ x.hi) ∧ ∀ (l : Addr) (xs : List V) (H' : Hp), Same H H' → H l = none → H' l = some (.lst xs) → DLs H H' xs (corn m.wd) → Q (.ref l) H'
theorem cal__law_corner_rows (T : Tp K mg) : Cal P w K mg base 2 "_law_corner_rows" sp_lcorn := by
  obtain ⟨fd, F⟩ := f__law_corner_rows T
  refine cal_of F (g__law_corner_rows T) (b__law_corner_rows F) sc__law_corner_rows (fun vs H Q E h => ?_) (fun cdv A outer s H vs Q E hr h => ?_)
  · obtain ⟨d, m, rfl, _⟩ := h
    rfl
  · obtain ⟨d, m, rfl, M, few, lohi, q⟩ := h
    have hu := hu_of hr
    refine ⟨_, (pss_cons (ps_set (i := 1) sc__law_corner_rows.nd rfl (.inl rfl) (pe_lst (pa_cons pe_dnewK pa_nil)))
      (pss_cons (ps_for PassesOwn.never rfl (pi_list (pe_dget hu (pv 0) pe_str (fun _ _ => rfl))) (pg_tup rfl (pgs_cons (pg_name (i := 2) sc__law_corner_rows.nd rfl (.inl rfl)) (pgs_cons (pg_name (i := 3) sc__law_corner_rows.nd rfl (.inl rfl)) (pgs_cons (pg_name (i := 4) sc__law_corner_rows.nd rfl (.inl rfl)) (pgs_cons (pg_name (i := 5) sc__law_corner_rows.nd rfl (.inl rfl)) (pgs_cons (pg_name (i := 6) sc__law_corner_rows.nd rfl (.inl rfl)) pgs_nil))))))
        (pss_cons (ps_set (i := 7) sc__law_corner_rows.nd rfl (.inl rfl) (pe_lst pa_nil))
        (pss_cons (ps_for PassesOwn.never rfl (pi_list (pv 1)) (pg_name (i := 8) sc__law_corner_rows.nd rfl (.inl rfl))
          (pss_one (ps_for PassesOwn.never rfl (pi_list (pe_slice sl_list (pe_lst (pa_cons (pv 4) (pa_cons (pv 5) pa_nil))) po_none (po_some (pe_op op_add pe_int (pe_callTy call_int1 (by rfl) (z_int T) bb_int (pa_cons (pe_cmpR op_lt (pv 4) (pv 5) (nomark _)) pa_nil)))))) (pg_name (i := 9) sc__law_corner_rows.nd rfl (.inl rfl))
            (pss_cons (ps_set (i := 10) sc__law_corner_rows.nd rfl (.inl rfl) (pe_callTy call_dictD (by rfl) (z_dict T) bb_dict (pa_cons (pv 8) pa_nil)))
            (pss_cons (ps_dput hu (pv 10) (pv 2) (pv 9) rfl)
            (pss_one (ps_expr (pe_bm PySem.F.plainAttrs_list PySem.F.slot_list_append PySem.F.type_list_append mt_append (pv 7) (pa_cons (pv 10) pa_nil)))))))))
        (pss_one (ps_set (i := 1) sc__law_corner_rows.nd rfl (.inl rfl) (pv 7))))))
      (pss_one (ps_ret (pv 1))))), ?_⟩
    refine fun e0 ne0 => ⟨by show 1 ≤ sizeLine; decide, fun l0 nl0 => ?_⟩
    have s0 := (same_upd (o := .dK []) ne0).trans (same_upd (o := .lst [.ref e0]) nl0)
    have n0 : H l0 = none := (same_upd (o := .dK []) ne0).free nl0
    have D0 : DLs H (upd (upd H e0 (.dK [])) l0 (.lst [.ref e0])) [.ref e0] (corn (m.wd.take 0)) := .cons ⟨e0, rfl, same_upd (o := .lst [.ref e0]) nl0 _ _ upd_same, ne0⟩ .nil
    have hl0 : upd (upd H e0 (.dK [])) l0 (.lst [.ref e0]) l0 = some (.lst [.ref e0]) := upd_same
    generalize upd (upd H e0 (.dK [])) l0 (.lst [.ref e0]) = H0 at s0 D0 hl0 ⊢
    obtain ⟨o, u, b, ws, bs, h1, h2, h3, h4, h5, h6, h7⟩ := (M.same s0).ex
    refine ⟨_, rfl, d, _, rfl, mk_wd h1, u, rfl, ⟨_, .inl (.inl h3)⟩, ?_⟩
    refine for_list (K := K) (a := u) (xs := ws) (fun i σ H' => ∃ (f : Addr) (xs : List V) (y2 y3 y4 y5 y6 y7 y8 y9 y10 : Option V), σ = [some (.ref d), some (.ref f), y2, y3, y4, y5, y6, y7, y8, y9, y10] ∧ Same H0 H' ∧ H f = none ∧ H' f = some (.lst xs) ∧ DLs H H' xs (corn (m.wd.take i))) ⟨l0, [.ref e0], none, none, none, none, none, none, none, none, none, rfl, Same.refl _, n0, hl0, D0⟩ (fun i σ H' _ ⟨_, _, _, _, _, _, _, _, _, _, _, _, s, _⟩ => .inl (.inl (s _ _ h3))) ?_ ?_
    · rintro i v σ H2 hv ⟨f, xs, y2, y3, y4, y5, y6, y7, y8, y9, y10, rfl, s2, nf, hf, DL⟩
      obtain ⟨t, x, rfl, ex, ht⟩ := row_of h4 hv
      have hi : i < m.wd.length := (List.getElem?_eq_some_iff.mp ex).1
      have hlh := lohi x (List.mem_of_getElem? ex)
      have lc : (corn (m.wd.take i)).length ≤ 16 := by
        have h := corn_len (m.wd.take i) [[]]
        have h2 : 2 ^ (m.wd.take i).length ≤ 2 ^ 4 := Nat.pow_le_pow_right (by decide) (by rw [List.length_take]; omega)
        have h3 : ([[]] : List Kvs).length = 1 := rfl
        rw [h3, Nat.mul_one] at h
        exact Nat.le_trans h h2
      have lx : xs.length = (corn (m.wd.take i)).length := DL.length
      refine ⟨t, x.row, rfl, .inl (.inl (s2 _ _ ht)), rfl, _, _, rfl, _, _, rfl, _, _, rfl, _, _, rfl, _, _, rfl, rfl, ?_⟩
      refine ⟨Nat.zero_le _, fun D nD => ?_⟩
      have sD := same_upd (o := .lst []) nD
      have sHD := (s0.trans s2).trans sD
      have nDH : H D = none := (s0.trans s2).free nD
      have hf1 := sD _ _ hf
      have DL1 := DL.same sD
      refine ⟨_, rfl, f, rfl, ⟨_, .inl (.inl hf1)⟩, ?_⟩
      refine for_list (K := K) (a := f) (xs := xs) (fun j σ H' => ∃ (ys : List V) (y8 y9 y10 : Option V), σ = [some (.ref d), some (.ref f), some (.str x.en), some (.str x.bg), some (.int x.lo), some (.int x.hi), some (oV x.la), some (.ref D), y8, y9, y10] ∧ Same H2 H' ∧ H' D = some (.lst ys) ∧ DLs H H' ys (wider ((corn (m.wd.take i)).take j) x)) ⟨[], y8, y9, y10, rfl, sD, upd_same, .nil⟩ (fun j σ H' _ ⟨_, _, _, _, _, s, _⟩ => .inl (.inl (s _ _ hf))) ?_ ?_
      · rintro j v σ H4 hv ⟨ys, y8, y9, y10, rfl, s4, hD4, DY⟩
        obtain ⟨kvs, ek, d0, rfl, hd0, nd0⟩ := paired_atD DL hv
        have few2 := ways_len x
        refine ⟨_, rfl, _, rfl, (by show 2 ≤ sizeLine; decide), fun g ng => ?_⟩
        have sg := same_upd (o := .lst [.int x.lo, .int x.hi]) ng
        refine ⟨_, rfl, _, rfl, x.lo, x.hi, rfl, rfl, .inr ⟨_, rfl, 1, _, rfl, rfl, _, rfl, g, _, rfl, .inl (.inl upd_same), fun g2 ng2 => ?_⟩⟩
        have ew : cutV [.int x.lo, .int x.hi] none (some (1 + if decide (x.lo < x.hi) = true then 1 else 0)) = (ways x).map V.int := by
          rw [cut_two]
          unfold ways
          by_cases c : x.lo = x.hi
          · rw [if_pos c, if_neg (by rw [decide_eq_true_eq]; omega)]
            rfl
          · rw [if_neg c, if_pos (decide_eq_true (by omega))]
            rfl
        rw [ew]
        have sg2 := sg.trans (same_upd (o := .lst ((ways x).map V.int)) ng2)
        have hg2 : upd (upd H4 g (.lst [.int x.lo, .int x.hi])) g2 (.lst ((ways x).map V.int)) g2 = some (.lst ((ways x).map V.int)) := upd_same
        generalize upd (upd H4 g (.lst [.int x.lo, .int x.hi])) g2 (.lst ((ways x).map V.int)) = H5 at sg2 hg2 ⊢
        refine ⟨g2, rfl, ⟨_, .inl (.inl hg2)⟩, ?_⟩
        refine for_list (K := K) (a := g2) (xs := (ways x).map V.int) (fun k σ H' => ∃ (ys : List V) (y9 y10 : Option V), σ = [some (.ref d), some (.ref f), some (.str x.en), some (.str x.bg), some (.int x.lo), some (.int x.hi), some (oV x.la), some (.ref D), some (.ref d0), y9, y10] ∧ Same H2 H' ∧ H' g2 = some (.lst ((ways x).map V.int)) ∧ g2 ≠ D ∧ H' D = some (.lst ys) ∧ DLs H H' ys (wider ((corn (m.wd.take i)).take j) x ++ ((ways x).take k).map fun v => putK kvs (kS x.en) (.int v))) ⟨ys, y9, y10, rfl, s4.trans sg2, hg2, (ne_of_none (sg _ _ hD4) ng2).symm, sg2 _ _ hD4, by rw [List.take_zero, List.map_nil, List.append_nil]; exact DY.same sg2⟩ (fun k σ H' _ ⟨_, _, _, _, _, h, _⟩ => .inl (.inl h)) ?_ ?_
        · rintro k v σ H6 hv ⟨ys, y9, y10, rfl, s6, hg6, ngD, hD6, DY6⟩
          obtain ⟨i0, ei, rfl⟩ : ∃ i0, (ways x)[k]? = some i0 ∧ v = .int i0 := by
            rw [List.getElem?_map] at hv
            cases e : (ways x)[k]? with
            | none =>
              rw [e] at hv
              cases hv
            | some z =>
              rw [e] at hv
              cases hv
              exact ⟨z, rfl, rfl⟩
          have hd6 := s6 _ _ hd0
          refine ⟨_, rfl, d0, kvs, rfl, .inl hd6, fun e ne6 => ?_⟩
          have se := same_upd (o := .dK kvs) ne6
          have kl : kvs.length < sizeLine := by
            have h := corn_klen (m.wd.take i) [[]] 0 (fun k hk => by rw [List.mem_singleton.mp hk]; exact Nat.le_refl 0) kvs (List.mem_of_getElem? ek)
            rw [List.length_take] at h
            exact small1000 (by omega)
          refine ⟨_, rfl, _, rfl, _, rfl, e, _, rfl, DPut.k (k := kS x.en) upd_same kl, ?_⟩
          have sF : Same H6 (upd (upd H6 e (.dK kvs)) e (.dK (putK kvs (kS x.en) (.int i0)))) := same_put se ne6
          have hF : upd (upd H6 e (.dK kvs)) e (.dK (putK kvs (kS x.en) (.int i0))) e = some (.dK (putK kvs (kS x.en) (.int i0))) := upd_same
          generalize upd (upd H6 e (.dK kvs)) e (.dK (putK kvs (kS x.en) (.int i0))) = H7 at sF hF ⊢
          have hD7 := sF _ _ hD6
          have ly : ys.length ≤ 40 := by
            have h1 : ys.length = _ := DY6.length
            have h2 := wider_len ((corn (m.wd.take i)).take j) x
            rw [h1, List.length_append, List.length_map, List.length_take]
            rw [List.length_take] at h2
            omega
          refine ⟨_, rfl, .inl ⟨rfl, _, .inl (.inl hD7)⟩, _, rfl, D, _, _, rfl, rfl, hD7, small1000 (by omega), ?_⟩
          refine ⟨ys ++ [.ref e], _, _, rfl, same_put (s6.trans sF) nD, by rw [upd_ne ngD]; exact sF _ _ hg6, ngD, upd_same, ?_⟩
          rw [List.take_add_one, ei, List.map_append, ← List.append_assoc]
          refine paired_snoc ((DY6.same sF).lst hD7) ⟨e, rfl, ?_, ((s0.trans s2).trans s6).free ne6⟩
          rw [upd_ne (ne_of hF hD7 (by intro z; cases z))]
          exact hF
        · rintro σ H6 ⟨ys, y9, y10, rfl, s6, hg6, ngD, hD6, DY6⟩
          refine ⟨ys, _, _, _, rfl, s6, hD6, ?_⟩
          rw [flat_take ek]
          rw [List.length_map, List.take_length] at DY6
          exact DY6
      · rintro σ H4 ⟨ys, y8, y9, y10, rfl, s4, hD4, DY⟩
        rw [lx, List.take_length] at DY
        refine ⟨_, rfl, D, ys, _, _, _, _, _, _, _, _, _, rfl, s2.trans s4, nDH, hD4, ?_⟩
        rw [corn_take ex]
        exact DY
    · rintro σ H2 ⟨f, xs, y2, y3, y4, y5, y6, y7, y8, y9, y10, rfl, s2, nf, hf, DL⟩
      have lw : ws.length = m.wd.length := by rw [h4.len, List.length_map]
      rw [lw, List.take_length] at DL
      exact ⟨_, rfl, q f xs H2 (s0.trans s2) nf hf DL⟩
end
end Tw

set_option maxHeartbeats 4000000
namespace Tw
open PySem PySem.Spec PyProof.Rows L2
theorem Rows.set {H : Hp} : ∀ {xs : List V} {rs : List (List V)} (i : Nat) {t : Addr} {r : List V}, Rows H xs rs → H t = some (.tup r) → Rows H (xs.set i (.ref t)) (rs.set i r)
  | _, _, 0, _, _, .nil, _ => .nil
  | _, _, _ + 1, _, _, .nil, _ => .nil
  | _, _, 0, t, _, .cons _ q, h => .cons ⟨t, rfl, h⟩ q
  | _, _, i + 1, _, _, .cons p q, h => .cons p (Rows.set i q h)
theorem set_self {α : Type} : ∀ {l : List α} {i : Nat} {a : α}, l[i]? = some a → l.set i a = l
  | [], _, _, _ => rfl
  | _ :: _, 0, _, e => by
    cases e
    rfl
  | b :: r, i + 1, a, e => by
    show b :: r.set i a = b :: r
    rw [set_self (l := r) (i := i) e]
/-- the span at a place with its greatest length alone -/
def narrow (x : Wd) : Wd := { x with lo := x.hi }
def Md.nar (m : Md) (i : Nat) (x : Wd) : Md := { m with wd := m.wd.set i (narrow x) }
theorem nar_ends {m : Md} {i : Nat} {x : Wd} (e : m.wd[i]? = some x) : (m.nar i x).wd.map (·.en) = m.wd.map (·.en) := by
  show (m.wd.set i (narrow x)).map (·.en) = _
  rw [List.map_set]
  exact set_self (by rw [List.getElem?_map, e]; rfl)
theorem nar_pts {m : Md} {i : Nat} {x : Wd} (e : m.wd[i]? = some x) : (m.nar i x).pts = m.pts := by
  unfold Md.pts
  rw [nar_ends e]
  rfl
theorem nar_ok {m : Md} {i : Nat} {x : Wd} (ok : MdOk m) (e : m.wd[i]? = some x) : MdOk (m.nar i x) := by
  refine ⟨ok.last, ?_, ?_, ?_, ?_, ?_⟩
  · rw [nar_ends e]
    exact ok.nd
  · rw [nar_ends e]
    exact ok.pool
  · intro y hy
    rcases List.mem_or_eq_of_mem_set hy with h | h
    · exact ok.wd y h
    · rw [h]
      have o := ok.wd x (List.mem_of_getElem? e)
      exact ⟨o.bg, Int.le_trans o.lo o.hi, Int.le_refl _, o.top, o.la⟩
  · rw [nar_pts e]
    exact ok.bd
  · refine ⟨ok.len.1, ?_, ok.len.2.2⟩
    show (m.wd.set i (narrow x)).length ≤ 4
    rw [List.length_set]
    exact ok.len.2.1
theorem sm_dls {H0 H1 H : Hp} {a b : Addr} {xs ys : List V} {L : List Kvs} {n : Nat} (h1 : H a = some (.lst xs)) (h2 : H b = some (.lst ys)) (d1 : DLs H0 H xs L) (d2 : DLs H1 H ys L) (old : ∀ y ∈ ys, ∃ d, y = V.ref d ∧ ∃ o, H0 d = some o) (few : L.length ≤ 1000) (fl : ∀ k ∈ L, ∀ p v, valV k p = some v → flatV v = true) : Sm (n + 3) (.ref a) (.ref b) H := by
  refine sm_lst h1 h2 (by rw [d1.length, d2.length]) (by rw [d1.length]; exact few) fun i x y hx hy => ?_
  obtain ⟨k, ek, d, rfl, hd, nd⟩ := paired_atD d1 hx
  obtain ⟨k', ek', e, rfl, he, ne⟩ := paired_atD d2 hy
  rw [ek] at ek'
  cases ek'
  obtain ⟨e', ee, o, ho⟩ := old _ (List.mem_of_getElem? hy)
  cases ee
  refine sm_dict (fun z => ?_) hd he rfl fun p hp => ?_
  · rw [z, ho] at nd
    cases nd
  · have ev := valV_any p.1 k
    rw [List.any_eq_true.mpr ⟨p, hp, decide_eq_true rfl⟩] at ev
    obtain ⟨v, hv⟩ := Option.isSome_iff_exists.mp ev.symm
    exact ⟨v, hv, hv, fl k (List.mem_of_getElem? ek) _ v hv⟩
theorem ways_ne (x : Wd) : ways x ≠ [] := by
  unfold ways
  by_cases e : x.lo = x.hi
  · rw [if_pos e]
    exact List.cons_ne_nil _ _
  · rw [if_neg e]
    exact List.cons_ne_nil _ _
theorem corn_ne : ∀ (wd : List Wd) (f : List Kvs), f ≠ [] → wd.foldl wider f ≠ []
  | [], _, h => h
  | x :: r, f, h => by
    refine corn_ne r (wider f x) fun e => ?_
    obtain ⟨k, hk⟩ := List.exists_mem_of_ne_nil _ h
    obtain ⟨v, hv⟩ := List.exists_mem_of_ne_nil _ (ways_ne x)
    have hm : putK k (kS x.en) (.int v) ∈ wider f x := List.mem_flatMap.mpr ⟨k, hk, List.mem_map.mpr ⟨v, hv, rfl⟩⟩
    rw [e] at hm
    cases hm
theorem putW {l : Int} {o w b w2 : Addr} : putK (mk l o w b) kWd (.ref w2) = mk l o w2 b := by
  have n6 : ¬ kBd = kWd := fun e => k6 e.symm
  unfold putK mk
  rw [if_pos (by rw [List.any_cons, List.any_cons, List.any_cons, decide_eq_true (rfl : kWd = kWd)]; simp)]
  simp only [List.map_cons, List.map_nil, if_neg k2, if_neg k4, if_neg n6, if_true]
section
variable {P : Program} {w : World} {K : PySem.W.Frag} {mg : Str → Option Value} {base : Heap}
def sp_law (K : PySem.W.Frag) : Sp := fun vs H Q _ => ∃ (a : Addr) (ns : List Int), vs = [.ref a] ∧ SqL K H a (ns.map V.int) ∧ ∀ H', Q (.bl true) H'
theorem ok_law (T : Tp K mg) {fd : FuncData} (F : FunD K "law" "law" (defArgs s_law) (defBody s_law) (defScope s_law) [] [] (He.ga K "law") fd) : FnOk P w K mg base CX0 10 (He.ga K "law") fd ["_law_script"] (sp_law K) := by
  refine fnok_of F sc_law (fun vs H Q E h => ?_) (fun cdv A outer s H vs Q E hr h => ?_)
  · obtain ⟨a, ns, rfl, _⟩ := h
    rfl
  · obtain ⟨a, ns, rfl, hS, q⟩ := h
    have hu := hu_of hr
    refine ⟨_, (pss_cons (ps_set (i := 1) sc_law.nd rfl (.inl rfl) (C8.pe_c (cal__law_flow T) hr (by decide) rfl (pa_cons (pv 0) pa_nil)))
      (pss_cons (ps_par3 (i := 2) (j := 3) (l := 4) (by rfl) sc_law.nd rfl rfl rfl (by decide) (by decide) (by decide) rfl rfl rfl (pa_cons (pe_op op_add pe_int (C8.pe_c (cal__law_draw T) hr (by decide) rfl (pa_cons (pv 1) (pa_cons pe_int pa_nil)))) (pa_cons (C8.pe_c (cal__law_draw T) hr (by decide) rfl (pa_cons (pv 1) (pa_cons pe_int pa_nil))) (pa_cons (C8.pe_c (cal__law_draw T) hr (by decide) rfl (pa_cons (pv 1) (pa_cons pe_int pa_nil))) pa_nil))) (by rfl))
      (pss_cons (ps_set (i := 5) sc_law.nd rfl (.inl rfl) (C8.pe_c (cal__law_drawn T) hr (by decide) rfl (pa_cons (pv 1) (pa_cons (pv 2) (pa_cons (pv 3) (pa_cons (pv 4) (pa_cons (pe_op op_add pe_int (C8.pe_c (cal__law_draw T) hr (by decide) rfl (pa_cons (pv 1) (pa_cons pe_int pa_nil)))) (pa_cons (pe_op op_add pe_int (C8.pe_c (cal__law_draw T) hr (by decide) rfl (pa_cons (pv 1) (pa_cons pe_int pa_nil)))) pa_nil))))))))
      (C8.pss_cut (ps_for PassesOwn.never rfl (pi_range1 rfl (z_range T) (pa_cons (pv 3) pa_nil)) (pg_name (i := 6) sc_law.nd rfl (.inl rfl))
        (pss_one (ps_if (pt_cmpR op_eq (C8.pe_c (cal__law_draw T) hr (by decide) rfl (pa_cons (pv 1) (pa_cons pe_int pa_nil))) pe_int (nomark _)) (pss_cons (ps_asg (pe_ix ix_list (pe_dget hu (pv 5) pe_str (fun _ _ => rfl)) (pv 6) (fun _ _ => rfl)) (pg_tup rfl (pgs_cons (pg_name (i := 7) sc_law.nd rfl (.inl rfl)) (pgs_cons (pg_name (i := 8) sc_law.nd rfl (.inl rfl)) (pgs_cons (pg_name (i := 9) sc_law.nd rfl (.inl rfl)) (pgs_cons (pg_name (i := 10) sc_law.nd rfl (.inl rfl)) (pgs_cons (pg_name (i := 11) sc_law.nd rfl (.inl rfl)) pgs_nil)))))))
          (pss_one (ps_asg (pe_tup (pa_cons (pv 7) (pa_cons (pv 8) (pa_cons (pv 10) (pa_cons (pv 10) (pa_cons (pv 11) pa_nil)))))) (pg_sub (pe_dget hu (pv 5) pe_str (fun _ _ => rfl)) (pv 6) set_list)))) pss_nil)))
      (pss_cons (ps_set (i := 12) sc_law.nd rfl (.inl rfl) (C8.pe_c (cal__law_web T) hr (by decide) rfl (pa_cons (pv 5) pa_nil)))
      (pss_cons (ps_set (i := 13) sc_law.nd rfl (.inl rfl) (C8.pe_c (cal__law_copy T) hr (by decide) rfl (pa_cons (pv 5) pa_nil)))
      (pss_cons (ps_dput hu (pv 13) pe_str (pe_lc (own := [("_law_wind_here", 17)]) (g := gName 17) (tt := tYes) rfl sc_law.nd (pi_list (pe_dget hu (pv 5) pe_str (fun _ _ => rfl))) (blkOk_by (N := N_law) (sc := defScope s_law) (by decide +kernel)) (fun _ _ _ _ _ => (pg_name (i := 17) sc_law.nd rfl (.inl rfl))) (fun _ _ _ _ _ => pts_nil) (fun _ _ _ _ _ => (pe_op op_catU (pe_slice (sl_tupK (K := K) rfl) (pv 17) po_none (po_some pe_int)) (pe_tup (pa_cons pe_non pa_nil))))) rfl)
      (pss_cons (ps_set (i := 14) sc_law.nd rfl (.inl rfl) (C8.pe_c (cal__law_corner_rows T) hr (by decide) rfl (pa_cons (pv 5) pa_nil)))
      (pss_cons (ps_for PassesOwn.never rfl (pi_range1 rfl (z_range T) (pa_cons pe_int pa_nil)) (pg_name (i := 15) sc_law.nd rfl (.inl rfl))
        (pss_cons (ps_set (i := 16) sc_law.nd rfl (.inl rfl) (C8.pe_c (cal_corners T) hr (by decide) rfl (pa_cons (pv 12) pa_nil)))
        (pss_cons (ps_if (PW.pt (pw_or (pt_not (pt_val (C8.pe_c (cal__law_same T) hr (by decide) rfl (pa_cons (pv 16) (pa_cons (pv 14) pa_nil))))) (pw_or1 (pt_not (pt_val (C8.pe_c (cal__law_stands T) hr (by decide) rfl (pa_cons (C8.pe_c (cal_deaf T) hr (by decide) rfl (pa_cons (pv 12) pa_nil)) (pa_cons (pv 13) pa_nil)))))))) (pss_one (ps_ret pe_bl)) pss_nil)
        (pss_cons (ps_dput hu (pe_ix ix_list (pv 16) pe_int (fun _ _ => rfl)) pe_str pe_int rfl)
        (pss_one (ps_expr (pe_bm PySem.F.plainAttrs_list PySem.F.slot_list_append PySem.F.type_list_append mt_append (pv 16) (pa_cons pe_dnewK pa_nil))))))))
      (pss_one (ps_ret (C8.pe_c (cal__law_stands T) hr (by decide) rfl (pa_cons (pv 12) (pa_cons (pv 5) pa_nil)))))))))))))), ?_⟩
    refine ⟨_, rfl, a, ns, rfl, hS, fun f c H1 s1 nf nc F1 => ?_⟩
    refine ⟨_, rfl, f, c, 4, rfl, F1, by decide, by decide, fun v1 H2 a1 b1 sb1 F2 => ⟨1, v1, rfl, rfl, _, rfl, f, c, 5, rfl, F2, by decide, by decide, fun v2 H3 a2 b2 sb2 F3 => ⟨_, rfl, f, c, 4, rfl, F3, by decide, by decide, fun v3 H4 a3 b3 sb3 F4 => ⟨_, _, _, rfl, ?_⟩⟩⟩⟩
    refine ⟨_, rfl, _, rfl, _, rfl, _, rfl, _, rfl, f, c, 200, rfl, F4, by decide, by decide, fun v4 H5 a4 b4 sb4 F5 => ⟨1, v4, rfl, rfl, _, rfl, f, c, 1000, rfl, F5, by decide, by decide, fun v5 H6 a5 b5 sb5 F6 => ⟨1, v5, rfl, rfl, f, c, 1 + v1, v2, v3, 1 + v4, 1 + v5, rfl, F6, by omega, by omega, by omega, by omega, by omega, by omega, by omega, by omega, by omega, by omega, by omega, fun d m H7 sb7 F7 nd M ok hlast hown hwd _ _ => ?_⟩⟩⟩
    -- some spans of one length
    refine ⟨fun σ' H' => ∃ (m' : Md) (y6 y7 y8 y9 y10 y11 : Option V), σ' = [some (.ref a), some (.ref f), some (.int (1 + v1)), some (.int v2), some (.int v3), some (.ref d), y6, y7, y8, y9, y10, y11, none, none, none, none, none, none] ∧ MdAt H' d m' ∧ MdOk m', ?_, ?_⟩
    · refine ⟨_, rfl, v2, rfl, by omega, by omega, ?_⟩
      refine for_range (lo := 0) (n := v2.toNat) (fun i σ H' => ∃ (m' : Md) (y6 y7 y8 y9 y10 y11 : Option V), σ = [some (.ref a), some (.ref f), some (.int (1 + v1)), some (.int v2), some (.int v3), some (.ref d), y6, y7, y8, y9, y10, y11, none, none, none, none, none, none] ∧ Flow H' f c ∧ MdAt H' d m' ∧ MdOk m' ∧ m'.wd.length = v2.toNat) ⟨m, none, none, none, none, none, none, rfl, F7, M, ok, hwd⟩ ?_ ?_
      · rintro i σ H8 hi ⟨m', y6, y7, y8, y9, y10, y11, rfl, F8, M8, ok8, lw8⟩
        refine ⟨_, rfl, f, c, 3, rfl, F8, by decide, by decide, fun v H9 _ _ sb9 F9 => ⟨rfl, _, rfl, ite2 (fun _ => ?_) (fun _ => ⟨m', _, _, _, _, _, _, rfl, F9, M8.sb F8 sb9, ok8, lw8⟩)⟩⟩
        obtain ⟨o, u, b, ws, bs, h1, h2, h3, h4, h5, h6, h7, h8, h9⟩ := (M8.sb F8 sb9).ex
        have lws : ws.length = v2.toNat := by rw [h4.len, List.length_map, lw8]
        obtain ⟨t, x, et, ex, ht⟩ : ∃ t x, ws[i]? = some (V.ref t) ∧ m'.wd[i]? = some x ∧ H9 t = some (.tup x.row) := by
          have hi' : i < ws.length := by omega
          obtain ⟨t, r, e1, e2, e3⟩ := row_of h4 (List.getElem?_eq_getElem hi')
          exact ⟨t, r, by rw [List.getElem?_eq_getElem hi', e1], e2, e3⟩
        have ix : atI ws (0 + (i : Int)) = some (.ref t) := at_of (j := i) (by omega) et
        refine ⟨_, rfl, d, _, rfl, mk_wd h1, _, rfl, u, ws, _, _, rfl, rfl, .inl (.inl h3), ix, t, x.row, rfl, .inl (.inl ht), rfl, _, _, rfl, _, _, rfl, _, _, rfl, _, _, rfl, _, _, rfl, rfl, ?_⟩
        refine ⟨_, rfl, _, rfl, _, rfl, _, rfl, _, rfl, (by show 5 ≤ sizeLine; decide), fun t' nt' => ?_⟩
        have st := same_upd (o := .tup (narrow x).row) nt'
        have ht' : upd H9 t' (.tup (narrow x).row) t' = some (.tup (narrow x).row) := upd_same
        refine ⟨_, rfl, d, _, rfl, mk_wd (st _ _ h1), _, rfl, u, ws, _, i, rfl, rfl, st _ _ h3, ?_, ?_⟩
        · unfold ixN
          rw [if_pos (by omega), if_pos (by omega)]
          congr 1
          omega
        · have F10 := F9.same st
          have ncu : c ≠ u := fun e => by
            obtain ⟨ns', i', r', st', e1, e2, e3⟩ := F9.ex
            rw [e, h3] at e2
            injection e2 with e2
            injection e2 with e2
            rw [e2, List.getElem?_map] at et
            cases en : ns'[i]? with
            | none =>
              rw [en] at et
              cases et
            | some z =>
              rw [en] at et
              cases et
          have nfu : f ≠ u := (rows_flow F9 h3 h4).symm
          have k1 : Kt (upd H9 t' (.tup (narrow x).row)) (upd (upd H9 t' (.tup (narrow x).row)) u (.lst (ws.set i (.ref t')))) := Kt.upd fun zs z => by
            rw [st _ _ h3] at z
            cases z
          have h1' := st _ _ h1
          have h3' := st _ _ h3
          refine ⟨m'.nar i x, _, _, _, _, _, _, rfl, F10.upd nfu ncu, ⟨o, u, b, ws.set i (.ref t'), bs, ?_, ?_, upd_same, ?_, ?_, (h6.keep (Kt.of st)).keep k1, h7, h8, h9⟩, nar_ok ok8 ex, ?_⟩
          · rw [upd_ne (ne_of h1' h3' (by intro z; cases z))]
            exact h1'
          · rw [upd_ne h7]
            exact st _ _ h2
          · show Rows _ _ ((m'.wd.set i (narrow x)).map Wd.row)
            rw [List.map_set]
            exact (((h4.keep (Kt.of st)).set i ht')).keep k1
          · rw [upd_ne h9.symm]
            exact st _ _ h5
          · show (m'.wd.set i (narrow x)).length = _
            rw [List.length_set]
            exact lw8
      · rintro σ H8 ⟨m', y6, y7, y8, y9, y10, y11, rfl, F8, M8, ok8, lw8⟩
        exact ⟨m', _, _, _, _, _, _, rfl, M8, ok8⟩
    · rintro σ' H10 ⟨m', y6, y7, y8, y9, y10, y11, rfl, M10, ok10⟩
      have hlen := ok10.len
      refine ⟨_, rfl, d, m', rfl, M10, ok10, fun p H11 s11 np W11 => ?_⟩
      refine ⟨_, rfl, d, m', rfl, M10.same s11, fun d' o' w' b' H12 s12 nd' no' nw' nb' X12 => ?_⟩
      have M12 := (M10.same s11).same s12
      obtain ⟨o, u, b, ws, bs, h1, h2, h3, h4, h5, h6, h7, h8, h9⟩ := M12.ex
      refine ⟨_, rfl, d, _, rfl, mk_wd h1, u, rfl, ⟨_, .inl (.inl h3)⟩, fun D nD => ?_⟩
      refine lc_pure m'.wd (walk_listN (by rw [h4.len, List.length_map])) (fun x => some (deafW x)) (SR Wd.row) sr_k nD (by omega) (fun H s => .inl (.inl (s _ _ h3))) ?_ ?_
      · rintro i x v H13 _ ex s13 ⟨rfl, hv⟩ Good Bad kt kf
        obtain ⟨t, rfl, ht⟩ := rows_at h4 hv ex
        have ht' := s13 _ _ ht
        refine ⟨rfl, yes_i (iteT ⟨_, rfl, 4, rfl, t, _, rfl, .inl (.inl ht'), (by rintro ⟨_, e⟩; cases e), fun k nk => ⟨by show 1 ≤ sizeLine; decide, fun j nj => ?_⟩⟩)⟩
        have sk := same_upd (o := .tup [.str x.en, .str x.bg, .int x.lo, .int x.hi]) nk
        have sj := same_upd (o := .tup [.non]) nj
        refine ⟨k, j, _, _, rfl, rfl, sj _ _ upd_same, upd_same, by show 4 + 1 ≤ sizeLine; decide, fun r H' s' hr' => ?_⟩
        exact kt _ _ _ rfl ((sk.trans sj).trans s') ⟨r, rfl, hr'⟩
      · intro H13 acc s13 d13 p13
        rw [show (m'.wd.filterMap fun x => some (deafW x)) = m'.wd.map deafW from List.filterMap_eq_map ▸ rfl] at p13
        have r13 := paired_rows p13
        have X13 := X12.same s13
        refine ⟨_, rfl, d', _, rfl, DPut.k (k := kWd) X13.dk (small1000 (by show 4 ≤ 1000; decide)), ?_⟩
        rw [putW]
        have s14 : Same H11 (upd H13 d' (.dK (mk m'.last o' D b'))) := same_put (s12.trans s13) nd'
        have k14 : Kt H13 (upd H13 d' (.dK (mk m'.last o' D b'))) := Kt.upd fun zs z => by
          rw [X13.dk] at z
          cases z
        have N14 : MdAt (upd H13 d' (.dK (mk m'.last o' D b'))) d' m'.deaf := by
          obtain ⟨bs', hb', rb'⟩ := X13.bd
          refine ⟨o', D, b', acc, bs', upd_same, ?_, ?_, ?_, ?_, rb'.keep k14, ne_of_none X12.own nD, X12.nob, ?_⟩
          · rw [upd_ne (ne_of X13.own X13.dk (by intro z; cases z))]
            exact X13.own
          · rw [upd_ne (ne_of d13 X13.dk (by intro z; cases z))]
            exact d13
          · exact r13.keep k14
          · rw [upd_ne (ne_of hb' X13.dk (by intro z; cases z))]
            exact hb'
          · obtain ⟨bs2, hb2, _⟩ := X12.bd
            exact (ne_of_none hb2 nD).symm
        have M14 := (M10.same s11).same s14
        have W14 := W11.same s14
        generalize upd H13 d' (.dK (mk m'.last o' D b')) = H14 at s14 N14 M14 W14 ⊢
        refine ⟨_, rfl, d, m', rfl, M14, hlen.2.1, fun x hx => (ok10.wd x hx).hi, fun D2 xs H15 s15 nD2 hD2 DL2 => ?_⟩
        have nde : (m'.wd.map (·.en)).Nodup := (List.nodup_append.mp ok10.nd).2.1
        have lc : (corn m'.wd).length ≤ 16 := by
          have h := corn_len m'.wd [[]]
          have h2 : 2 ^ m'.wd.length ≤ 2 ^ 4 := Nat.pow_le_pow_right (by decide) hlen.2.1
          have h3 : ([[]] : List Kvs).length = 1 := rfl
          rw [h3, Nat.mul_one] at h
          exact Nat.le_trans h h2
        have sml := small_take nde m'.wd.length
        rw [List.take_length] at sml
        refine ⟨2, rfl, by decide, by decide, for_range (lo := 0) (n := 2) (fun i σ H' => ∃ y15 y16 : Option V, σ = [some (.ref a), some (.ref f), some (.int (1 + v1)), some (.int v2), some (.int v3), some (.ref d), y6, y7, y8, y9, y10, y11, some (.ref p), some (.ref d'), some (.ref D2), y15, y16, none] ∧ Same H15 H') ⟨none, none, rfl, Same.refl _⟩ ?_ ?_⟩
        · rintro i σ H16 hi ⟨y15, y16, rfl, s16⟩
          have sx := s15.trans s16
          refine ⟨_, rfl, p, m', rfl, W14.same sx, nde, fun l ys H17 s17 nl hl DL => ?_⟩
          have old : ∀ y ∈ xs, ∃ e, y = V.ref e ∧ ∃ o, H16 e = some o := fun y hy => by
            obtain ⟨j, hj⟩ := List.getElem?_of_mem hy
            obtain ⟨k, _, e, rfl, he, _⟩ := paired_atD DL2 hj
            exact ⟨e, rfl, _, s16 _ _ he⟩
          have s167 := s16.trans s17
          refine ⟨_, rfl, _, rfl, _, _, rfl, sm_dls hl (s167 _ _ hD2) DL (DL2.same s167) old (by omega) (fun k hk p v hv => ?_), fun H18 s18 => ⟨_, rfl, iteF ?_⟩⟩
          · obtain ⟨i, rfl⟩ := (sml k hk).int p v hv
            rfl
          · have s178 := s17.trans s18
            refine ⟨_, rfl, p, m', rfl, (W14.same sx).same s178, fun p2 H19 s19 np2 Wd => ⟨_, rfl, p2, d', m'.deaf, rfl, Wd, (N14.same sx).same (s178.trans s19), fun H20 s20 => ⟨_, rfl, iteF ?_⟩⟩⟩
            have sA := (s18.trans s19).trans s20
            have hl20 := sA _ _ hl
            have DL20 := DL.same sA
            have ne0 : 0 < ys.length := by
              rw [DL.length]
              exact List.length_pos_iff.mpr (corn_ne m'.wd [[]] (List.cons_ne_nil _ _))
            obtain ⟨k0, ek0, d0, ed0, hd0, nd0⟩ := paired_atD DL20 (List.getElem?_eq_getElem ne0)
            have kl0 := (sml k0 (List.mem_of_getElem? ek0)).len
            refine ⟨_, rfl, l, ys, 0, .ref d0, rfl, rfl, .inl (.inl hl20), atI_nat (j := 0) (by rw [List.getElem?_eq_getElem ne0, ed0]), d0, _, rfl, DPut.k (k := kS "q") hd0 (small1000 (by omega)), ?_⟩
            have sB : Same H16 (upd H20 d0 (.dK (putK k0 (kS "q") (.int 1)))) := same_put (s17.trans sA) nd0
            have hlB : upd H20 d0 (.dK (putK k0 (kS "q") (.int 1))) l = some (.lst ys) := by
              rw [upd_ne (ne_of hl20 hd0 (by intro z; cases z))]
              exact hl20
            generalize upd H20 d0 (.dK (putK k0 (kS "q") (.int 1))) = H21 at sB hlB ⊢
            have ly : ys.length ≤ 16 := by
              rw [DL.length]
              exact lc
            refine ⟨_, rfl, .inl ⟨rfl, _, .inl (.inl hlB)⟩, fun e ne => ?_⟩
            have se := same_upd (o := .dK []) ne
            refine ⟨l, _, _, rfl, rfl, se _ _ hlB, small1000 (by omega), ?_⟩
            exact ⟨_, _, rfl, s16.trans (same_put (sB.trans se) nl)⟩
        · rintro σ H16 ⟨y15, y16, rfl, s16⟩
          have sx := s15.trans s16
          exact ⟨_, rfl, _, rfl, p, d, m', rfl, W14.same sx, M14.same sx, fun H17 _ => q H17⟩
end
end Tw

set_option maxHeartbeats 0
namespace Tw
open PySem PySem.Spec PyProof.Rows L2
theorem facts {P : Program} {w : World} {K : PySem.W.Frag} {h : Heap} {mg : Str → Option Value} {f : Addr} (X : K.In h) (G : h.Ns mainGlobals mg) (hfa : mg ("law" : Str) = some (.ref f)) (c : He.SaysD fa fn K) :
    ∃ fd : FuncData, (∀ (s : Shared) (v : Value), BindsTo s fd ⟨[v], []⟩ [("_law_script", v)]) ∧ ∀ base : Heap, FnOk P w K mg base CX0 10 f fd ["_law_script"] (sp_law K) := by
  have T : Tp K mg := tp_mk X G c rfl
  have e := hfa.symm.trans (g_law T)
  cases e
  obtain ⟨fd, F⟩ := f_law T
  have b := FunD.bindsA (ps := ["_law_script"]) F fun _ _ _ _ _ _ us hl => match us, hl with
    | [_], _ => rfl
  exact ⟨fd, fun s v => b s [v] rfl, fun base => ok_law T F⟩
end Tw
open PySem PySem.W PySem.Calls PyProof.Rows
theorem PySem.Challenge.cw_tidewaiter_k42_deaf_webs_and_corners_holds : PySem.Challenge.rw_tidewaiter_k42_deaf_webs_and_corners.Holds := by
  w_on; o_law
  refine HandSHeadRun.head_any (r := Tw.R) (q := view Tw.R.prog [Tw.lawAt]) (H := Tw.hk) (ob := Tw.ob) (M := 8000) (loose := Tw.loose) (d := HandSHeadRun.topDef Tw.R.prog Tw.lawAt) (kwd := []) Tw.ob_eq
    (by kernel_rfl) (fun s => by kernel_rfl) Tw.run (by kernel_rfl) (by kernel_rfl) (by kernel_rfl) (by rfl) (by first | assumption | decide +kernel) (by decide +kernel) ⟨rfl, rfl, rfl, rfl, rfl, by decide +kernel⟩ ?hw ?hc
  case hw => w_witness2
  case hc =>
    refine L2.walk_ofE (l := PySem.Challenge.rw_tidewaiter_k42_deaf_webs_and_corners) (n := 63) (k := 10) (x := "_law_script") (CX := L2.CX0) rfl (by decide) (by kernel_rfl) ⟨rfl, by decide, by decide⟩ ?F (fun _ _ _ _ z => z)
    intro w mg fa h Y G hmg0
    obtain ⟨K, KX, c⟩ := Y
    have hmg : mg ("law" : PySem.Str) = some (.ref fa) := by
      have e : (HandSHeadRun.topDef Tw.R.prog Tw.lawAt).name = ("law" : PySem.Str) := by kernel_rfl
      rw [← e]
      exact hmg0
    obtain ⟨fd, hb, hF⟩ := Tw.facts (P := (PySem.Challenge.rw_tidewaiter_k42_deaf_webs_and_corners).prog) (w := w) KX G hmg c
    exact ⟨K, fd, Tw.sp_law K, KX, hb, fun H a ns hl _ hS => ⟨a, ns, rfl, hS, fun _ => rfl⟩, fun base _ _ => hF base⟩


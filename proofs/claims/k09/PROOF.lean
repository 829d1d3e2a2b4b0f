import PyProof.Rows.All
import Wide.All
import OpenK.AllK
import Wide.FinOn
import KE.KStateDown
import HandS.ForMost
import HandS.IsInst
import HandS.FStr
import HandS.Star
import HandS.Style
import HandS.Codes
import HandS.Walk
import HandS.Defaults
import HandS.MakeKw
import HandS.SlotsOwn
import HandS.HeadEnd
import HandS.HeadHook1
import HandS.HeadHook2
import HandS.Head0
import HandS.Head1
import HandS.Head2
import HandS.More
import PySem.Challenge.RW_tidewaiter_k09_whole_bounds_are_the_ties
set_option Elab.async false
set_option linter.all false
set_option maxRecDepth 100000
set_option maxHeartbeats 4000000
/-! rules of our own over the layer: a def's promise out of its place in the top (the promises themselves are C8's), methods called with keywords, len and repr of an own instance -/
namespace Tw
open PySem PySem.Spec PyProof.Rows L2
section
variable (P : Program) (w : World) (K : PySem.W.Frag) (mg : Str → Option Value) (base : Heap)
/-- the library's promises of a def and of a method, where every parameter is handed in -/
abbrev Cal (k : Nat) (x : Str) (sp : Sp) : Prop := C8.Cal P w K mg base k x sp []
abbrev Met (k : Nat) (C : Addr) (m : Str) (sp : Sp) : Prop := C8.Met P w K mg base k C m sp []
abbrev Mak (k : Nat) (x : Str) (C : Addr) (sp : Sp) (dvs : List V) : Prop := C8.Mak P w K mg base k x C sp dvs
/-- what is owed for a body: it can be read, and under the promise's premise its reading does what the promise tells -/
abbrev BodyOk (k : Nat) (N : List Str) (qual : Str) (body : List Stmt) (scope : Scope) (f : Addr) (sp : Sp) : Prop :=
  ∀ (cdv : Value) (A : Around) (outer : List Env) (s : Shared) (H : Hp) (vs : List V) (Q : VK) (E : XK), Room k (A.deeper (envOfC qual scope s.heap.objs.size f cdv)) → sp vs H Q E →
      ∃ t, PSs (cxOf CX0 P w K mg base N qual scope f cdv A outer s H E).nox body t ∧ t { nx := fun _ H' => Q .non H', rt := Q } (start N vs) H
/-- a method of C for n positional values (self among them) and the keywords ks; gV puts them into the parameters' order -/
structure MetG (CX : CXT) (k : Nat) (C : Addr) (m : Str) (sp : Sp) (n : Nat) (ks : List Str) (gV : List V → List V → List V) : Prop where
  ex : ∃ (f : Addr) (fd : FuncData) (ps : List Str) (g : List Value → List Value → List Value), Cls K C ∧ Meth K C m f ∧ FnOk P w K mg base CX k f fd ps sp ∧ KBn K fd ps n ks g gV
abbrev MetN (k : Nat) (C : Addr) (m : Str) (sp : Sp) (n : Nat) (ks : List Str) : Prop := MetG P w K mg base CX0 k C m sp n ks (fun us ws => us ++ ws)
end
section
variable {P : Program} {w : World} {K : PySem.W.Frag} {mg : Str → Option Value} {base : Heap} {x qual : Str} {C f : Addr} {params : Arguments} {body : List Stmt} {scope : Scope} {dvs : List V} {kws : List (Str × V)} {fd : FuncData} {N ps ks : List Str} {k n : Nat} {sp : Sp}
theorem fnok_of (F : FunD K x qual params body scope dvs kws f fd) (S : FnScope N ps scope) (len : ∀ vs H Q E, sp vs H Q E → vs.length = ps.length) (owed : BodyOk P w K mg base k N qual body scope f sp) : FnOk P w K mg base CX0 (k + 1) f fd ps sp :=
  F.ok S len fun cdv A outer s H vs Q E room h => (owed cdv A outer s H vs Q E room h).imp fun _ p => ⟨p.1.nox, p.2⟩
theorem cal_of (F : FunD K x x params body scope [] [] f fd) (hm : mg x = some (.ref f)) (b : Binds K fd ps []) (S : FnScope N ps scope) (len : ∀ vs H Q E, sp vs H Q E → vs.length = ps.length) (owed : BodyOk P w K mg base k N x body scope f sp) : Cal P w K mg base (k + 1) x sp :=
  ⟨f, fd, ps, [], fnok_of F S len owed, hm, F.kp, b, .nil⟩
theorem met_of (F : FunD K x qual params body scope dvs kws f fd) (c : Cls K C) (me : Meth K C x f) (b : Binds K fd ps []) (S : FnScope N ps scope) (len : ∀ vs H Q E, sp vs H Q E → vs.length = ps.length) (owed : BodyOk P w K mg base k N qual body scope f sp) : Met P w K mg base (k + 1) C x sp :=
  ⟨f, fd, ps, [], c, me, fnok_of F S len owed, b, .nil⟩
/-- no defaults: the handed values, put in order by g, are the parameters -/
theorem kbn_by (F : FunD K x qual params body scope [] kws f fd) (g : {α : Type} → List α → List α → List α) (hrel : ∀ {vs zs : List V} {us ws : List Value}, Vals vs us → Vals zs ws → Vals (g vs zs) (g us ws))
    (h : ∀ (kV doc pm : Value) (an : Option Addr) (cdv ct : Value) (us ws : List Value), us.length = n → ws.length = ks.length → bindArgs (PySem.W.fnOf x qual params body scope .none kV doc pm an cdv ct) ⟨us, ks.zip ws⟩ = pure (ps.zip (g us ws))) :
    KBn K fd ps n ks (fun us ws => g us ws) (fun us ws => g us ws) := by
  obtain ⟨_, _, _, kV, doc, pm, an, cdv, ct, _, rfl, _, _, none_ | ⟨some_, _⟩, _⟩ := F.ex
  · cases none_.2
    exact ⟨fun _ us ws _ l1 l2 => .of_eq (h kV doc pm an cdv ct us ws l1 l2), hrel⟩
  · cases some_ rfl
theorem kbn_of (F : FunD K x qual params body scope [] kws f fd)
    (h : ∀ (kV doc pm : Value) (an : Option Addr) (cdv ct : Value) (us ws : List Value), us.length = n → ws.length = ks.length → bindArgs (PySem.W.fnOf x qual params body scope .none kV doc pm an cdv ct) ⟨us, ks.zip ws⟩ = pure (ps.zip (us ++ ws))) :
    KBn K fd ps n ks (fun us ws => us ++ ws) (fun us ws => us ++ ws) := kbn_by F (fun us ws => us ++ ws) (fun r1 r2 => r1.append r2) h
end
section
variable {X : Cx} {CX : CXT} {k j n : Nat} {C : Addr} {x m : Str} {sp : Sp} {dvs : List V} {p pos apos : Pos} {e o : Expr} {es : List Expr} {ta : TE} {t tk : TA} {ks : List Str} {kws : List Keyword} {gV : List V → List V → List V} {E : XK} {pl : Sem Bool}
/-- C() with all its parameters left out -/
theorem pe_mk0 (c : Mak X.prog X.w X.K X.mg X.base k x C sp dvs) (hr : Room j X.A) (hk : k + 1 ≤ j) (hg : Gl X x) (hdb : (x == ("__debug__" : Str)) = false := by decide) : PE X (.Call (.Name x p) [] [] pos) (tMake C sp dvs E0 tNil) :=
  let ⟨_, _, _, _, made, F, at_, b, d⟩ := c.ex
  pe_make0 made F (hr.mono hk) hg at_ b d pass0 hdb
/-- the text o.m(e, .., k = v, ..) has no star, names its keywords ks, and goes these steps -/
structure KwForm (X : Cx) (pl : Sem Bool) (o e : Expr) (es : List Expr) (kws : List Keyword) (m : Str) (apos pos : Pos) (ks : List Str) : Prop where
  named : (backToKw pos (keywordEach kws X.env)).all (·.1.isSome) = true
  names : (backToKw pos (keywordEach kws X.env)).filterMap (·.1) = ks
  first : starEach (e :: es) X.env = (false, eval e X.env) :: starEach es X.env
  plain : ((backTo pos (starEach (e :: es) X.env)).any (·.1) || (backToKw pos (keywordEach kws X.env)).any (·.1.isNone)) = false
  steps : eval (.Call (.Attribute o m apos) (e :: es) kws pos) X.env =
    (eval o X.env >>= fun ov => standAt apos.atName >>= fun _ => holding [ov] (getMethod ov m pl) >>= fun g => callWith pos g.1 g.2 (backTo pos (starEach (e :: es) X.env)) (backToKw pos (keywordEach kws X.env)))
def tMethG (C : Addr) (m : Str) (n nk : Nat) (sp : Sp) (gV : List V → List V → List V) (E : XK) (ta : TE) (t tk : TA) : TE := fun σ H Q => ta σ H fun x H1 => ∃ a dx fs, x = .ref a ∧ H1 a = some (.ins C dx fs) ∧ fs.lookup m = none ∧
  t σ H1 fun vs H2 => tk σ H2 fun zs H3 => vs.length + 1 = n ∧ zs.length = nk ∧ sp (gV (x :: vs) zs) H3 Q E
theorem pe_mg (c : MetG X.prog X.w X.K X.mg X.base CX k C m sp n ks gV) (hx : Passes CX X E) (hr : Room j X.A) (hk : k ≤ j) (he : PE X o ta) (ha : PA X (e :: es) t) (hkw : PK X kws tk) (form : KwForm X pl o e es kws m apos pos ks) :
    PE X (.Call (.Attribute o m apos) (e :: es) kws pos) (tMethG C m n ks.length sp gV E ta t tk) := by
  obtain ⟨f, fd, ps, g, cls, me, F, kb⟩ := c.ex
  obtain ⟨named, rfl, first, plain, steps⟩ := form
  constructor
  intro pins s σ H Q I h
  refine PySem.W.methodCall_KW (pl := pl) (thn (he.run pins s σ H _ I h) ?_) steps
  rintro _ s1 ⟨_, H1, I1, obj, a, dx, fs, rfl, here, own, q⟩
  cases (show _ = Value.ref a from obj)
  refine getmeth_ok I1 here cls me own (PySem.W.callWith_KW (first := [.ref a]) (h₀ := X.base) I.ok.mod.kin me.kp named (thn (ha.run pos pins s1 σ H1 _ I1 q) ?_) plain first)
  rintro us s2 ⟨vs, H2, I2, rv, q2⟩
  refine thn (hkw.run pos pins s2 σ H2 _ I2 q2) ?_
  rintro ws s3 ⟨zs, H3, I3, rz, ln, lk, q3⟩
  exact ⟨I3.kIn, run_fnN (us := .ref a :: us) (vs := .ref a :: vs) F (hr.mono hk) kb hx I3 (.cons rfl rv) rz ln lk q3⟩
/-- .. where the method raises nothing -/
theorem pe_mg0 (c : MetG X.prog X.w X.K X.mg X.base CX0 k C m sp n ks gV) (hr : Room j X.A) (hk : k ≤ j) (he : PE X o ta) (ha : PA X (e :: es) t) (hkw : PK X kws tk) (form : KwForm X pl o e es kws m apos pos ks := by exact ⟨rfl, rfl, rfl, rfl, rfl⟩) :
    PE X (.Call (.Attribute o m apos) (e :: es) kws pos) (tMethG C m n ks.length sp gV E0 ta t tk) := pe_mg c pass0 hr hk he ha hkw form
/-- an own method without values, as a builtin finds and runs it -/
theorem own0 (c : Met X.prog X.w X.K X.mg X.base k C m sp) : ∃ f, PySem.W.findIn X.K (.ref C) m = some (some (.ref f)) ∧ PySem.W.isFn X.K (.ref f) = true ∧ FnR X.prog X.w X.K X.mg X.base CX0 k f sp := by
  obtain ⟨f, _, _, _, _, me, F, b, d⟩ := c.ex
  exact ⟨f, me.at_, me.fn, (F.raw b d).imp fun vs _ _ _ h => (List.append_nil vs).symm ▸ h⟩
/-- len(o) by an own __len__ -/
def rLenO (C : Addr) (sp : Sp) : List V → Hp → VK → Prop := fun xs H Q => ∃ a dx fs, xs = [.ref a] ∧ H a = some (.ins C dx fs) ∧ sp [.ref a] H (fun v H' => ∃ i : Int, v = .int i ∧ 0 ≤ i ∧ i < 2 ^ 63 ∧ Q (.int i) H') E0
theorem call_lenO (c : Met X.prog X.w X.K X.mg X.base k C "__len__" sp) (hr : Room j X.A) (hk : k + 1 ≤ j) : CallR X (.builtin "len") (rLenO C sp) := by
  rintro pins s σ H _ us Q I r ⟨a, dx, fs, rfl, here, q⟩
  obtain rfl := Vals.ref1 r
  obtain ⟨f, hs, hf, F⟩ := own0 c
  obtain ⟨_, J0, _⟩ := ins_get I.hok here
  obtain ⟨_, J, _⟩ := J0.look
  obtain ⟨_, hF⟩ := I.fr
  refine PySem.W.len_K hF I.ok.mod.kin J hs hf (thn (wpAny_call (SlX.run_at F (hr.mono hk).in1 I.env0.in1 pass0 I r q)) ?_)
  rintro _ s1 ⟨_, H1, I1, rv, i, rfl, low, high, q1⟩
  obtain ⟨_, rfl⟩ := rv
  exact ⟨⟨low, high⟩, .int i, H1, I1.tok _, ⟨_, rfl⟩, q1⟩
/-- repr(o) by an own __repr__ -/
def rReprO (C : Addr) (sp : Sp) : List V → Hp → VK → Prop := fun xs H Q => ∃ a dx fs, xs = [.ref a] ∧ H a = some (.ins C dx fs) ∧ sp [.ref a] H (fun v H' => ∃ z : Str, v = .str z ∧ Q (.str z) H') E0
theorem call_reprO (c : Met X.prog X.w X.K X.mg X.base k C "__repr__" sp) (hr : Room j X.A) (hk : k + 1 ≤ j) : CallR X (.builtin "repr") (rReprO C sp) := by
  rintro pins s σ H _ us Q I r ⟨a, dx, fs, rfl, here, q⟩
  obtain rfl := Vals.ref1 r
  obtain ⟨f, hs, hf, F⟩ := own0 c
  obtain ⟨_, J0, _⟩ := ins_get I.hok here
  obtain ⟨_, J, _⟩ := J0.look
  obtain ⟨_, hF⟩ := I.fr
  have room : Room k X.A.in1 := (hr.mono hk).in1
  refine PySem.W.repr_K room.units0 hF I.ok.mod.kin J hs hf (thn (wpAny_call (SlX.run_at F room I.env0.in1 pass0 I r q)) ?_)
  rintro _ s1 ⟨_, H1, I1, rv, z, rfl, q1⟩
  obtain ⟨_, rfl⟩ := rv
  exact ⟨.str z, H1, I1, ⟨_, rfl⟩, q1⟩
end
end Tw

set_option maxHeartbeats 4000000
/-! what the program's and the law's data are, and what heaps keep -/
namespace Tw
open PySem PySem.Spec PyProof.Rows L2
theorem bb_len : bootBuiltins "len" = some (.builtin "len") := by decide +kernel
theorem bb_all : bootBuiltins "all" = some (.builtin "all") := by decide +kernel
theorem bb_abs : bootBuiltins "abs" = some (.builtin "abs") := by decide +kernel
theorem bb_repr : bootBuiltins "repr" = some (.builtin "repr") := by decide +kernel
theorem bb_isinstance : bootBuiltins "isinstance" = some (.builtin "isinstance") := by decide +kernel
theorem bb_list : bootBuiltins "list" = some (.type "list") := by decide +kernel
theorem bb_tuple : bootBuiltins "tuple" = some (.type "tuple") := by decide +kernel
theorem bb_str : bootBuiltins "str" = some (.type "str") := by decide +kernel
theorem bb_bool : bootBuiltins "bool" = some (.type "bool") := by decide +kernel
theorem bb_int : bootBuiltins "int" = some (.type "int") := by decide +kernel
theorem bb_dict : bootBuiltins "dict" = some (.type "dict") := by decide +kernel
/-! isinstance with a built-in class -/
def kitT : String → String → Bool
  | "bool", "bool" => true
  | "bool", "int" => true
  | "int", "int" => true
  | "str", "str" => true
  | "list", "list" => true
  | "tuple", "tuple" => true
  | "dict", "dict" => true
  | _, _ => false
def kinds : List String := ["NoneType", "bool", "int", "str", "list", "tuple", "dict"]
theorem kitB_all : (kinds.all fun a => (kinds.drop 1).all fun b => decide (kitB a b = some (kitT a b))) = true := by decide +kernel
theorem kitB_of {a b : String} (ha : a ∈ kinds) (hb : b ∈ kinds.drop 1) : kitB a b = some (kitT a b) :=
  of_decide_eq_true (List.all_eq_true.mp (List.all_eq_true.mp kitB_all a ha) b hb)
/-- isinstance(x, T): the reading asks the kind of x -/
def rIsK (K : PySem.W.Frag) : List V → Hp → VK → Prop := fun xs H Q => ∃ (x : V) (n a : String), xs = [x, .ty n] ∧ TyX K H x (.type a) ∧ a ∈ kinds ∧ n ∈ kinds.drop 1 ∧ Q (.bl (kitT a n)) H
theorem call_isK {X : Cx} : CallR X (.builtin "isinstance") (rIsK X.K) := by
  intro pins s σ H xs us Q I r h
  obtain ⟨x, n, a, rfl, ty, ha, hn, q⟩ := h
  exact call_isi pins s σ H _ us Q I r ⟨x, .ty n, .type a, .type n, kitT a n, rfl, .ty n, ty, kit_ty (kitB_of ha hn), q⟩
/-! the same rules inside a comprehension's block, where the written part is the def's -/
section
variable {X : Cx} {K : PySem.W.Frag}
theorem ix_tupK (h : X.K = K) : IxR X (rIxT K) := h ▸ ix_tup
theorem ix_listK (h : X.K = K) : IxR X (rIxL K) := h ▸ ix_list
theorem ix_seqK (h : X.K = K) : IxR X (rIx K) := h ▸ ix_seq
theorem op_in_seqK (h : X.K = K) : OpR X (compareOp .In) (rIn K false) := h ▸ op_in_seq
theorem op_notIn_seqK (h : X.K = K) : OpR X (compareOp .NotIn) (rIn K true) := h ▸ op_notIn_seq
theorem call_len_seqK (h : X.K = K) : CallR X (.builtin "len") (fun xs H Q => ∃ p ys, xs = [.ref p] ∧ (SqL K H p ys ∨ SqT K H p ys) ∧ Q (.int ys.length) H) := h ▸ call_len_seq
theorem call_isKK (h : X.K = K) : CallR X (.builtin "isinstance") (rIsK K) := h ▸ call_isK
theorem pe_fldK {e : Expr} {f : Str} {ta : TE} {pos : Pos} (h : X.K = K) (ha : PE X e ta) (hb : attributeBase e f X.env (eval e X.env) = eval e X.env) : PE X (.Attribute e f pos) (tFld K ta f) := h ▸ pe_fld ha hb
theorem pg_tupK {es : List Expr} {k : Nat} {t : TGs} {n : Nat} {pos : Pos} (h : X.K = K) (hc : X.calm = true) (hg : PGs X es t) (hn : (assignEach es X.env).length = n := by rfl) (hst : (assignEach es X.env).findIdx? (·.1) = none := by rfl) : PG X (.Tuple es k pos) (gTup K n t) := h ▸ pg_tup hc hg hn hst
end
theorem yes_i {σ : L2.St} {H : Hp} {Q : Bool → Hp → Prop} (h : Q true H) : tYes σ H Q := h
/-! ### heaps -/
theorem same_upd {H : Hp} {p : Addr} {o : HO} (h : H p = none) : Same H (upd H p o) := fun b x e => by
  rw [upd_ne (ne_of_none e h)]
  exact e
/-- all but the place f stays -/
def Sb (f : Addr) (H H' : Hp) : Prop := ∀ b o, H b = some o → b ≠ f → H' b = some o
theorem Sb.refl {f : Addr} {H : Hp} : Sb f H H := fun _ _ h _ => h
theorem Sb.of {f : Addr} {H H' : Hp} (s : Same H H') : Sb f H H' := fun b o h _ => s b o h
theorem Sb.trans {f : Addr} {H H1 H2 : Hp} (a : Sb f H H1) (b : Sb f H1 H2) : Sb f H H2 := fun c o h n => b c o (a c o h n) n
theorem Sb.upd {f : Addr} {H : Hp} {o : HO} : Sb f H (upd H f o) := fun b x e n => by
  rw [upd_ne n]
  exact e
/-- tuples stay -/
def Kt (H H' : Hp) : Prop := ∀ b xs, H b = some (.tup xs) → H' b = some (.tup xs)
theorem Kt.of {H H' : Hp} (s : Same H H') : Kt H H' := fun b _ h => s b _ h
theorem Kt.trans {H H1 H2 : Hp} (a : Kt H H1) (b : Kt H1 H2) : Kt H H2 := fun c o h => b c o (a c o h)
theorem Sb.kt {f : Addr} {H H' : Hp} {xs : List V} (s : Sb f H H') (hf : H f = some (.lst xs)) : Kt H H' := fun b _ h => s b _ h (ne_of h hf (by intro z; cases z))
theorem Kt.upd {H : Hp} {p : Addr} {o : HO} (h : ∀ xs, H p = some (.tup xs) → o = .tup xs) : Kt H (upd H p o) := fun b xs e => by
  by_cases hb : b = p
  · subst hb
    rw [upd_same, h xs e]
  · rw [upd_ne hb]
    exact e
/-! ### the data -/
structure Wd where
  en : Str
  bg : Str
  lo : Int
  hi : Int
  la : Option Int
structure Bd where
  one : Str
  oth : Str
  bot : Option Int
  top : Option Int
/-- a web as the law keeps it -/
structure Md where
  last : Int
  own : List Str
  wd : List Wd
  bd : List Bd
def oV : Option Int → V
  | none => .non
  | some i => .int i
def Wd.row (x : Wd) : List V := [.str x.en, .str x.bg, .int x.lo, .int x.hi, oV x.la]
def Bd.row (x : Bd) : List V := [.str x.one, .str x.oth, oV x.bot, oV x.top]
def Md.pts (m : Md) : List Str := "start" :: (m.own ++ m.wd.map (·.en))
/-- tuples stand at these places -/
def Rows (H : Hp) (xs : List V) (rs : List (List V)) : Prop := Paired (fun x r => ∃ t, x = V.ref t ∧ H t = some (.tup r)) xs rs
theorem Rows.keep {H H' : Hp} (k : Kt H H') {xs : List V} {rs : List (List V)} (h : Rows H xs rs) : Rows H' xs rs := Paired.mono (fun _ _ ⟨t, e, ht⟩ => ⟨t, e, k t _ ht⟩) h
theorem Rows.len {H : Hp} {xs : List V} {rs : List (List V)} (h : Rows H xs rs) : xs.length = rs.length := Paired.length h
theorem Rows.snoc {H : Hp} {xs : List V} {rs : List (List V)} {t : Addr} {r : List V} (h : Rows H xs rs) (e : H t = some (.tup r)) : Rows H (xs ++ [.ref t]) (rs ++ [r]) := Paired.snoc h ⟨t, rfl, e⟩
theorem paired_at {α β : Type} {F : α → β → Prop} : ∀ {l : List α} {m : List β} {i : Nat} {a : α}, Paired F l m → l[i]? = some a → ∃ b, m[i]? = some b ∧ F a b
  | _, _, 0, _, .cons h _, e => by
    cases e
    exact ⟨_, rfl, h⟩
  | _, _, i + 1, a, .cons _ t, e => by
    obtain ⟨b, h1, h2⟩ := paired_at (i := i) t e
    exact ⟨b, h1, h2⟩
theorem Rows.at {H : Hp} {xs : List V} {rs : List (List V)} {i : Nat} {x : V} (h : Rows H xs rs) (e : xs[i]? = some x) : ∃ t r, x = .ref t ∧ rs[i]? = some r ∧ H t = some (.tup r) := by
  obtain ⟨r, h1, t, h2, h3⟩ := paired_at h e
  exact ⟨t, r, h2, h1, h3⟩
/-- a Web's attributes -/
def wf (last : Int) (a b c : Addr) : List (Str × V) := [("by", .int last), ("moment_rows", .ref a), ("span_rows", .ref b), ("tie_rows", .ref c)]
theorem wf_by {l : Int} {a b c : Addr} : (wf l a b c).lookup ("by" : Str) = some (.int l) := by
  unfold wf
  rw [List.lookup_cons_self]
theorem wf_m {l : Int} {a b c : Addr} : (wf l a b c).lookup ("moment_rows" : Str) = some (.ref a) := by
  unfold wf
  rw [List.lookup_cons, show (("moment_rows" : Str) == "by") = false by decide +kernel, List.lookup_cons_self]
theorem wf_s {l : Int} {a b c : Addr} : (wf l a b c).lookup ("span_rows" : Str) = some (.ref b) := by
  unfold wf
  rw [List.lookup_cons, show (("span_rows" : Str) == "by") = false by decide +kernel, List.lookup_cons, show (("span_rows" : Str) == "moment_rows") = false by decide +kernel, List.lookup_cons_self]
theorem wf_t {l : Int} {a b c : Addr} : (wf l a b c).lookup ("tie_rows" : Str) = some (.ref c) := by
  unfold wf
  rw [List.lookup_cons, show (("tie_rows" : Str) == "by") = false by decide +kernel, List.lookup_cons, show (("tie_rows" : Str) == "moment_rows") = false by decide +kernel, List.lookup_cons, show (("tie_rows" : Str) == "span_rows") = false by decide +kernel, List.lookup_cons_self]
def webAttrs : List Str := ["by", "moment_rows", "span_rows", "tie_rows"]
theorem wf_no {l : Int} {a b c : Addr} {m : Str} (h : webAttrs.all (fun x => !(m == x)) = true) : (wf l a b c).lookup m = none := by
  unfold webAttrs at h
  simp only [List.all_cons, List.all_nil, Bool.and_true, Bool.and_eq_true, Bool.not_eq_true'] at h
  obtain ⟨h1, h2, h3, h4⟩ := h
  unfold wf
  rw [List.lookup_cons, h1, List.lookup_cons, h2, List.lookup_cons, h3, List.lookup_cons, h4]
  rfl
/-- a web stands at p -/
structure WebAt (C : Addr) (H : Hp) (p : Addr) (m : Md) : Prop where
  ex : ∃ (dx a b c : Addr) (ws bs : List V), H p = some (.ins C dx (wf m.last a b c)) ∧ H a = some (.tup (m.own.map V.str)) ∧ H b = some (.tup ws) ∧ Rows H ws (m.wd.map Wd.row) ∧ H c = some (.tup bs) ∧ Rows H bs (m.bd.map Bd.row)
  len : m.own.length ≤ 10 ∧ m.wd.length ≤ 4 ∧ m.bd.length ≤ 40
  last : 1 ≤ m.last ∧ m.last ≤ 1000
theorem WebAt.keep {C : Addr} {H H' : Hp} {p : Addr} {m : Md} (h : WebAt C H p m) (hp : ∀ dx fs, H p = some (.ins C dx fs) → H' p = some (.ins C dx fs)) (k : Kt H H') : WebAt C H' p m := by
  obtain ⟨dx, a, b, c, ws, bs, h1, h2, h3, h4, h5, h6⟩ := h.ex
  exact ⟨⟨dx, a, b, c, ws, bs, hp _ _ h1, k _ _ h2, k _ _ h3, h4.keep k, k _ _ h5, h6.keep k⟩, h.len, h.last⟩
theorem WebAt.same {C : Addr} {H H' : Hp} {p : Addr} {m : Md} (h : WebAt C H p m) (s : Same H H') : WebAt C H' p m := h.keep (fun _ _ e => s _ _ e) (Kt.of s)
theorem WebAt.sb {C : Addr} {H H' : Hp} {p f : Addr} {m : Md} {xs : List V} (h : WebAt C H p m) (s : Sb f H H') (hf : H f = some (.lst xs)) : WebAt C H' p m :=
  h.keep (fun _ _ e => s _ _ e (ne_of e hf (by intro z; cases z))) (s.kt hf)
/-- what is a name -/
abbrev letters : Str := "abcdefghijklmnopqrstuvwxyz"
def Nm (z : Str) : Prop := 1 ≤ z.length ∧ z.length ≤ 8 ∧ ∀ c ∈ z.cps.toList, c ∈ letters.cps.toList
end Tw

set_option maxHeartbeats 4000000
/-! dicts of texts and ints as functions; dict.update -/
namespace Tw
open PySem PySem.Spec PyProof.Rows L2
section
variable {X : Cx}
def rUpdate : V → List V → Hp → VK → Prop := fun x vs H Q => ∃ a b kvs more, x = .ref a ∧ vs = [.ref b] ∧ a ≠ b ∧ H a = some (.dK kvs) ∧ H b = some (.dK more) ∧ kvs.length + more.length ≤ sizeLine ∧ Q .non (upd H a (.dK (mergeK kvs more)))
/-- d.update(e) of two dicts -/
theorem mt_update : MtR X "dict.update" rUpdate := by
  intro pins s σ H x vs v us Q I rx rv h
  obtain ⟨a, b, kvs, more, rfl, rfl, ne, e1, e2, hz, q⟩ := h
  cases rx
  obtain ⟨u, rfl, ru⟩ := rv.one
  cases ru
  obtain ⟨z1, hd1, vs1, r1, d1⟩ := dk_of I.hok e1
  obtain ⟨z2, hd2, vs2, r2, d2⟩ := dk_of I.hok e2
  have l1 : vs1.length + vs2.length ≤ sizeLine := by rw [← r1.length, ← r2.length]; exact hz
  refine call_meetsIn PySem.F.slot_dict_update d1.typeIs PySem.F.entry_dict_update (PySem.F.args_dict_update_2 _ _) (meets_dict_update (mixKind X.prog X.w) a b ne hd2) ⟨vs1, vs2, d1, d2, l1, fun h' dd _ hs => ?_⟩
  have he : ∃ q, h'.get? a = some q := let ⟨q, _, _, hq, _⟩ := dd; ⟨q, hq⟩
  have hl : (mergeK kvs more).length ≤ sizeLine := Nat.le_trans (length_mergeK more kvs) hz
  exact ⟨.non, _, d_write (t' := s.toks) I (by rw [e1]; exact True.intro) hs he (dk_new hl hd1 (r2.merge r1) dd), rfl, q⟩
end
/-! ### tables as functions -/
abbrev Fn := Str → Option Int
def setF (f : Fn) (z : Str) (v : Int) : Fn := fun y => if y = z then some v else f y
theorem setF_same {f : Fn} {z : Str} {v : Int} : setF f z v z = some v := if_pos rfl
theorem setF_ne {f : Fn} {y z : Str} {v : Int} (h : ¬ y = z) : setF f z v y = f y := if_neg h
def ov (s h : Fn) : Fn := fun z => match h z with
  | some v => some v
  | none => s z
abbrev kS (z : Str) : Key := .inr z
def TFn (kvs : List (Key × V)) (g : Fn) : Prop := (∀ z, valV kvs (kS z) = (g z).map V.int) ∧ (kvs.map (·.1)).Nodup
theorem valV_mem {kvs : List (Key × V)} {k : Key} (h : valV kvs k = none) : ¬ k ∈ kvs.map (·.1) := by
  induction kvs with
  | nil => exact fun z => nomatch z
  | cons p r ih =>
    by_cases e : p.1 = k
    · rw [valV_pos e] at h
      cases h
    · rw [valV_neg e] at h
      intro m
      rcases List.mem_cons.mp m with m | m
      · exact e m.symm
      · exact ih h m
theorem valV_out {kvs : List (Key × V)} {k : Key} (h : ¬ k ∈ kvs.map (·.1)) : valV kvs k = none := by
  induction kvs with
  | nil => rfl
  | cons p r ih =>
    have h : ¬ k ∈ p.1 :: r.map (·.1) := h
    rw [valV_neg (fun e => h (by rw [e]; exact List.mem_cons_self))]
    exact ih fun m => h (List.mem_cons_of_mem _ m)
theorem nodup_put {kvs : List (Key × V)} {k : Key} {v : V} (h : (kvs.map (·.1)).Nodup) : ((putK kvs k v).map (·.1)).Nodup := by
  unfold putK
  by_cases a : (kvs.any fun kv => decide (kv.1 = k)) = true
  · rw [if_pos a, List.map_map]
    have e : ((fun x : Key × V => x.1) ∘ fun kv : Key × V => if kv.1 = k then (kv.1, v) else kv) = fun x => x.1 := by
      funext x
      show (if x.1 = k then (x.1, v) else x).1 = x.1
      by_cases c : x.1 = k
      · rw [if_pos c]
      · rw [if_neg c]
    rw [e]
    exact h
  · rw [if_neg a, List.map_append]
    rw [valV_any] at a
    have n : valV kvs k = none := by
      cases q : valV kvs k with
      | none => rfl
      | some x => rw [q] at a; exact (a rfl).elim
    refine List.nodup_append.mpr ⟨h, List.nodup_cons.mpr ⟨(fun z => nomatch z), List.nodup_nil⟩, fun x hx y hy e => ?_⟩
    have hy := List.mem_singleton.mp hy
    subst hy e
    exact valV_mem n hx
theorem TFn.nil : TFn [] (fun _ => none) := ⟨fun _ => rfl, List.nodup_nil⟩
theorem TFn.put {kvs : List (Key × V)} {g : Fn} (h : TFn kvs g) (z : Str) (v : Int) : TFn (putK kvs (kS z) (.int v)) (setF g z v) := by
  refine ⟨fun y => ?_, nodup_put h.2⟩
  rw [valV_put]
  by_cases e : y = z
  · subst e
    rw [if_pos rfl, setF_same]
    rfl
  · rw [if_neg (fun q => e (Sum.inr.inj q)), setF_ne e]
    exact h.1 y
theorem valV_merge : ∀ (more kvs : List (Key × V)) (j : Key), (more.map (·.1)).Nodup → valV (mergeK kvs more) j = match valV more j with
    | some v => some v
    | none => valV kvs j
  | [], _, _, _ => rfl
  | p :: r, kvs, j, nd => by
    have nd : (p.1 :: r.map (·.1)).Nodup := nd
    obtain ⟨n1, n2⟩ := List.nodup_cons.mp nd
    show valV (mergeK (putK kvs p.1 p.2) r) j = _
    rw [valV_merge r _ j n2, valV_put]
    by_cases e : p.1 = j
    · subst e
      rw [valV_pos rfl, valV_out n1, if_pos rfl]
    · rw [valV_neg e, if_neg (fun q => e q.symm)]
theorem nodup_merge : ∀ (more kvs : List (Key × V)), (kvs.map (·.1)).Nodup → ((mergeK kvs more).map (·.1)).Nodup
  | [], _, h => h
  | p :: r, kvs, h => nodup_merge r (putK kvs p.1 p.2) (nodup_put h)
theorem TFn.merge {kvs more : List (Key × V)} {s h : Fn} (a : TFn kvs s) (b : TFn more h) : TFn (mergeK kvs more) (ov s h) := by
  refine ⟨fun z => ?_, nodup_merge _ _ a.2⟩
  rw [valV_merge _ _ _ b.2, b.1 z]
  unfold ov
  cases h z with
  | none => exact a.1 z
  | some v => rfl
/-- a dict with texts as keys and ints as values -/
def DFn (H : Hp) (d : Addr) (g : Fn) (n : Nat) : Prop := ∃ kvs, H d = some (.dK kvs) ∧ TFn kvs g ∧ kvs.length ≤ n
theorem DFn.same {H H' : Hp} {d : Addr} {g : Fn} {n : Nat} (h : DFn H d g n) (s : Same H H') : DFn H' d g n := let ⟨k, a, b⟩ := h; ⟨k, s _ _ a, b⟩
theorem DFn.sb {H H' : Hp} {d f : Addr} {g : Fn} {n : Nat} {xs : List V} (h : DFn H d g n) (s : Sb f H H') (hf : H f = some (.lst xs)) : DFn H' d g n := let ⟨k, a, b⟩ := h; ⟨k, s _ _ a (ne_of a hf (by intro z; cases z)), b⟩
theorem DFn.lst {H : Hp} {d W : Addr} {g : Fn} {n : Nat} {xs ys : List V} (h : DFn H d g n) (hf : H W = some (.lst xs)) : DFn (upd H W (.lst ys)) d g n := let ⟨k, a, b⟩ := h; ⟨k, by rw [upd_ne (ne_of a hf (by intro z; cases z))]; exact a, b⟩
theorem DFn.oth {H : Hp} {d e : Addr} {g : Fn} {n : Nat} {o : HO} (h : DFn H d g n) (ne : d ≠ e) : DFn (upd H e o) d g n := let ⟨k, a, b⟩ := h; ⟨k, by rw [upd_ne ne]; exact a, b⟩
theorem DFn.get {H : Hp} {d : Addr} {g : Fn} {n : Nat} (h : DFn H d g n) (z : Str) : DGet H d (.str z) ((g z).map V.int) := by
  obtain ⟨k, a, b, _⟩ := h
  rw [← b.1 z]
  exact DGet.k (k := kS z) a
theorem DFn.at {H : Hp} {d : Addr} {g : Fn} {n : Nat} {z : Str} {v : Int} (h : DFn H d g n) (e : g z = some v) : DGet H d (.str z) (some (.int v)) := by
  have := h.get z
  rw [e] at this
  exact this
theorem DFn.put {H : Hp} {d : Addr} {g : Fn} {n : Nat} (h : DFn H d g n) (z : Str) (v : Int) (hn : n < sizeLine) : ∃ kvs, DPut H d (.str z) (.int v) (upd H d (.dK kvs)) ∧ DFn (upd H d (.dK kvs)) d (setF g z v) (n + 1) := by
  obtain ⟨k, a, b, l⟩ := h
  refine ⟨_, DPut.k (k := kS z) a (Nat.lt_of_le_of_lt l hn), _, upd_same, b.put z v, ?_⟩
  have := length_putK k (kS z) (.int v)
  omega
/-- a list of such dicts -/
def DFs (H : Hp) (xs : List V) (gs : List Fn) (n : Nat) : Prop := Paired (fun x g => ∃ d, x = V.ref d ∧ DFn H d g n) xs gs
theorem DFs.mono {H H' : Hp} {xs : List V} {gs : List Fn} {n : Nat} (h : DFs H xs gs n) (k : ∀ d g, DFn H d g n → DFn H' d g n) : DFs H' xs gs n := Paired.mono (fun _ _ ⟨d, e, q⟩ => ⟨d, e, k _ _ q⟩) h
theorem DFs.up {H : Hp} {xs : List V} {gs : List Fn} {n m : Nat} (h : DFs H xs gs n) (l : n ≤ m) : DFs H xs gs m := Paired.mono (fun _ _ ⟨d, e, k, a, b, c⟩ => ⟨d, e, k, a, b, Nat.le_trans c l⟩) h
theorem DFs.at {H : Hp} {xs : List V} {gs : List Fn} {n i : Nat} {x : V} (h : DFs H xs gs n) (e : xs[i]? = some x) : ∃ d g, x = .ref d ∧ gs[i]? = some g ∧ DFn H d g n := by
  obtain ⟨g, e1, d, e2, q⟩ := paired_at h e
  exact ⟨d, g, e2, e1, q⟩
end Tw

set_option maxHeartbeats 4000000
namespace Tw
open PySem PySem.Spec PyProof.Rows L2

def top (i : Nat) : Stmt := PySem.Challenge.pw_tidewaiter_k09_whole_bounds_are_the_ties.main.body.getD i (.Pass ⟨0, 0, 0, 0⟩)
abbrev s_is_number : Stmt := top 4
abbrev s_is_whole : Stmt := top 5
abbrev s_is_one_of : Stmt := top 6
abbrev s_is_name : Stmt := top 7
abbrev s_Web_UinitU : Stmt := inClass (top 30) 0
abbrev s_Web_with_moment : Stmt := inClass (top 30) 2
abbrev s_Web_with_span : Stmt := inClass (top 30) 3
abbrev s_Web_with_tie : Stmt := inClass (top 30) 4
abbrev s_Web_moments : Stmt := inClass (top 30) 7
abbrev s_Web_spans : Stmt := inClass (top 30) 8
abbrev s_Web_ties : Stmt := inClass (top 30) 9
abbrev s_Web_points : Stmt := inClass (top 30) 10
abbrev s_Web_UeqU : Stmt := inClass (top 30) 11
abbrev s_Web_UlenU : Stmt := inClass (top 30) 12
abbrev s_Web_UreprU : Stmt := inClass (top 30) 13
abbrev s_woven : Stmt := top 31
abbrev s_is_begin : Stmt := top 32
abbrev s_are_lengths : Stmt := top 33
abbrev s_is_lateness : Stmt := top 34
abbrev s_are_bounds : Stmt := top 35
abbrev s_need_free_name : Stmt := top 36
abbrev s_need_point : Stmt := top 37
abbrev s_offset : Stmt := top 39
abbrev s_bounds : Stmt := top 40
abbrev s_tie_bounds : Stmt := top 41
abbrev s_heard_spans : Stmt := top 42
abbrev s__law_flow : Stmt := top 44
abbrev s__law_draw : Stmt := top 45
abbrev s__law_pick : Stmt := top 46
abbrev s__law_names : Stmt := top 47
abbrev s__law_model : Stmt := top 48
abbrev s__law_points : Stmt := top 49
abbrev s__law_web : Stmt := top 50
abbrev s__law_wind : Stmt := top 51
abbrev s__law_bond : Stmt := top 52
abbrev s__law_drawn : Stmt := top 53
abbrev s__law_lengths : Stmt := top 54
abbrev s__law_tie_holds : Stmt := top 55
abbrev s__law_come : Stmt := top 56
abbrev s__law_all_hold : Stmt := top 57
abbrev s__law_bounds_hold : Stmt := top 58
abbrev s_law : Stmt := top 59
abbrev N_is_number : List Str := ["thing"]
theorem sc_is_number : FnScope N_is_number ["thing"] (defScope s_is_number) := ⟨rfl, rfl, rfl, by decide +kernel, rfl, by decide +kernel, by decide +kernel⟩
abbrev N_is_whole : List Str := ["thing", "least", "most"]
theorem sc_is_whole : FnScope N_is_whole ["thing", "least", "most"] (defScope s_is_whole) := ⟨rfl, rfl, rfl, by decide +kernel, rfl, by decide +kernel, by decide +kernel⟩
abbrev N_is_one_of : List Str := ["thing", "names"]
theorem sc_is_one_of : FnScope N_is_one_of ["thing", "names"] (defScope s_is_one_of) := ⟨rfl, rfl, rfl, by decide +kernel, rfl, by decide +kernel, by decide +kernel⟩
abbrev N_is_name : List Str := ["thing", "letter"]
theorem sc_is_name : FnScope N_is_name ["thing"] (defScope s_is_name) := ⟨rfl, rfl, rfl, by decide +kernel, rfl, by decide +kernel, by decide +kernel⟩
abbrev N_Web_UinitU : List Str := ["self", "by"]
theorem sc_Web_UinitU : FnScope N_Web_UinitU ["self", "by"] (defScope s_Web_UinitU) := ⟨rfl, rfl, rfl, by decide +kernel, rfl, by decide +kernel, by decide +kernel⟩
abbrev N_Web_with_moment : List Str := ["self", "name"]
theorem sc_Web_with_moment : FnScope N_Web_with_moment ["self", "name"] (defScope s_Web_with_moment) := ⟨rfl, rfl, rfl, by decide +kernel, rfl, by decide +kernel, by decide +kernel⟩
abbrev N_Web_with_span : List Str := ["self", "end", "begin", "low", "high", "late", "span"]
theorem sc_Web_with_span : FnScope N_Web_with_span ["self", "end", "begin", "low", "high", "late"] (defScope s_Web_with_span) := ⟨rfl, rfl, rfl, by decide +kernel, rfl, by decide +kernel, by decide +kernel⟩
abbrev N_Web_with_tie : List Str := ["self", "one", "other", "least", "most", "tie"]
theorem sc_Web_with_tie : FnScope N_Web_with_tie ["self", "one", "other", "least", "most"] (defScope s_Web_with_tie) := ⟨rfl, rfl, rfl, by decide +kernel, rfl, by decide +kernel, by decide +kernel⟩
abbrev N_Web_moments : List Str := ["self"]
theorem sc_Web_moments : FnScope N_Web_moments ["self"] (defScope s_Web_moments) := ⟨rfl, rfl, rfl, by decide +kernel, rfl, by decide +kernel, by decide +kernel⟩
abbrev N_Web_spans : List Str := ["self"]
theorem sc_Web_spans : FnScope N_Web_spans ["self"] (defScope s_Web_spans) := ⟨rfl, rfl, rfl, by decide +kernel, rfl, by decide +kernel, by decide +kernel⟩
abbrev N_Web_ties : List Str := ["self"]
theorem sc_Web_ties : FnScope N_Web_ties ["self"] (defScope s_Web_ties) := ⟨rfl, rfl, rfl, by decide +kernel, rfl, by decide +kernel, by decide +kernel⟩
abbrev N_Web_points : List Str := ["self", "ends", "span"]
theorem sc_Web_points : FnScope N_Web_points ["self"] (defScope s_Web_points) := ⟨rfl, rfl, rfl, by decide +kernel, rfl, by decide +kernel, by decide +kernel⟩
abbrev N_Web_UeqU : List Str := ["self", "other"]
theorem sc_Web_UeqU : FnScope N_Web_UeqU ["self", "other"] (defScope s_Web_UeqU) := ⟨rfl, rfl, rfl, by decide +kernel, rfl, by decide +kernel, by decide +kernel⟩
abbrev N_Web_UlenU : List Str := ["self"]
theorem sc_Web_UlenU : FnScope N_Web_UlenU ["self"] (defScope s_Web_UlenU) := ⟨rfl, rfl, rfl, by decide +kernel, rfl, by decide +kernel, by decide +kernel⟩
abbrev N_Web_UreprU : List Str := ["self"]
theorem sc_Web_UreprU : FnScope N_Web_UreprU ["self"] (defScope s_Web_UreprU) := ⟨rfl, rfl, rfl, by decide +kernel, rfl, by decide +kernel, by decide +kernel⟩
abbrev N_woven : List Str := ["by", "moments", "spans", "ties", "web"]
theorem sc_woven : FnScope N_woven ["by", "moments", "spans", "ties"] (defScope s_woven) := ⟨rfl, rfl, rfl, by decide +kernel, rfl, by decide +kernel, by decide +kernel⟩
abbrev N_is_begin : List Str := ["web", "name"]
theorem sc_is_begin : FnScope N_is_begin ["web", "name"] (defScope s_is_begin) := ⟨rfl, rfl, rfl, by decide +kernel, rfl, by decide +kernel, by decide +kernel⟩
abbrev N_are_lengths : List Str := ["low", "high"]
theorem sc_are_lengths : FnScope N_are_lengths ["low", "high"] (defScope s_are_lengths) := ⟨rfl, rfl, rfl, by decide +kernel, rfl, by decide +kernel, by decide +kernel⟩
abbrev N_is_lateness : List Str := ["late"]
theorem sc_is_lateness : FnScope N_is_lateness ["late"] (defScope s_is_lateness) := ⟨rfl, rfl, rfl, by decide +kernel, rfl, by decide +kernel, by decide +kernel⟩
abbrev N_are_bounds : List Str := ["least", "most", "told", "bound"]
theorem sc_are_bounds : FnScope N_are_bounds ["least", "most"] (defScope s_are_bounds) := ⟨rfl, rfl, rfl, by decide +kernel, rfl, by decide +kernel, by decide +kernel⟩
abbrev N_need_free_name : List Str := ["web", "name"]
theorem sc_need_free_name : FnScope N_need_free_name ["web", "name"] (defScope s_need_free_name) := ⟨rfl, rfl, rfl, by decide +kernel, rfl, by decide +kernel, by decide +kernel⟩
abbrev N_need_point : List Str := ["web", "name"]
theorem sc_need_point : FnScope N_need_point ["web", "name"] (defScope s_need_point) := ⟨rfl, rfl, rfl, by decide +kernel, rfl, by decide +kernel, by decide +kernel⟩
abbrev N_offset : List Str := ["web", "name", "end", "begin", "low", "high", "late"]
theorem sc_offset : FnScope N_offset ["web", "name"] (defScope s_offset) := ⟨rfl, rfl, rfl, by decide +kernel, rfl, by decide +kernel, by decide +kernel⟩
abbrev N_bounds : List Str := ["web", "found", "moment", "end", "begin", "first", "last", "tie"]
theorem sc_bounds : FnScope N_bounds ["web"] (defScope s_bounds) := ⟨rfl, rfl, rfl, by decide +kernel, rfl, by decide +kernel, by decide +kernel⟩
abbrev N_tie_bounds : List Str := ["web", "tie", "one", "other", "least", "most", "one_base", "one_least", "one_most", "other_base", "other_least", "other_most", "found"]
theorem sc_tie_bounds : FnScope N_tie_bounds ["web", "tie"] (defScope s_tie_bounds) := ⟨rfl, rfl, rfl, by decide +kernel, rfl, by decide +kernel, by decide +kernel⟩
abbrev N_heard_spans : List Str := ["web", "end", "begin", "low", "high", "late"]
theorem sc_heard_spans : FnScope N_heard_spans ["web"] (defScope s_heard_spans) := ⟨rfl, rfl, rfl, by decide +kernel, rfl, by decide +kernel, by decide +kernel⟩
abbrev N__law_flow : List Str := ["_law_script"]
theorem sc__law_flow : FnScope N__law_flow ["_law_script"] (defScope s__law_flow) := ⟨rfl, rfl, rfl, by decide +kernel, rfl, by decide +kernel, by decide +kernel⟩
abbrev N__law_draw : List Str := ["_law_flow_here", "_law_size", "_law_found", "_law_cell", "_law_here"]
theorem sc__law_draw : FnScope N__law_draw ["_law_flow_here", "_law_size"] (defScope s__law_draw) := ⟨rfl, rfl, rfl, by decide +kernel, rfl, by decide +kernel, by decide +kernel⟩
abbrev N__law_pick : List Str := ["_law_flow_here", "_law_row"]
theorem sc__law_pick : FnScope N__law_pick ["_law_flow_here", "_law_row"] (defScope s__law_pick) := ⟨rfl, rfl, rfl, by decide +kernel, rfl, by decide +kernel, by decide +kernel⟩
abbrev N__law_names : List Str := ["_law_flow_here", "_law_many", "_law_pool", "_law_found", "_law_k"]
theorem sc__law_names : FnScope N__law_names ["_law_flow_here", "_law_many"] (defScope s__law_names) := ⟨rfl, rfl, rfl, by decide +kernel, rfl, by decide +kernel, by decide +kernel⟩
abbrev N__law_model : List Str := ["_law_last"]
theorem sc__law_model : FnScope N__law_model ["_law_last"] (defScope s__law_model) := ⟨rfl, rfl, rfl, by decide +kernel, rfl, by decide +kernel, by decide +kernel⟩
abbrev N__law_points : List Str := ["_law_m", "_law_wind_here"]
theorem sc__law_points : FnScope N__law_points ["_law_m"] (defScope s__law_points) := ⟨rfl, rfl, rfl, by decide +kernel, rfl, by decide +kernel, by decide +kernel⟩
abbrev N__law_web : List Str := ["_law_m", "_law_web_here", "_law_name", "_law_end", "_law_begin", "_law_low", "_law_high", "_law_hush", "_law_one", "_law_other", "_law_bot", "_law_top"]
theorem sc__law_web : FnScope N__law_web ["_law_m"] (defScope s__law_web) := ⟨rfl, rfl, rfl, by decide +kernel, rfl, by decide +kernel, by decide +kernel⟩
abbrev N__law_wind : List Str := ["_law_flow_here", "_law_end", "_law_own", "_law_far", "_law_low", "_law_high", "_law_hush"]
theorem sc__law_wind : FnScope N__law_wind ["_law_flow_here", "_law_end", "_law_own", "_law_far"] (defScope s__law_wind) := ⟨rfl, rfl, rfl, by decide +kernel, rfl, by decide +kernel, by decide +kernel⟩
abbrev N__law_bond : List Str := ["_law_flow_here", "_law_points_here", "_law_far", "_law_rest", "_law_one", "_law_other", "_law_low", "_law_high", "_law_kind"]
theorem sc__law_bond : FnScope N__law_bond ["_law_flow_here", "_law_points_here", "_law_far"] (defScope s__law_bond) := ⟨rfl, rfl, rfl, by decide +kernel, rfl, by decide +kernel, by decide +kernel⟩
abbrev N__law_drawn : List Str := ["_law_flow_here", "_law_own", "_law_winds", "_law_bonds", "_law_far", "_law_last", "_law_m", "_law_names_here", "_law_end", "_law_k"]
theorem sc__law_drawn : FnScope N__law_drawn ["_law_flow_here", "_law_own", "_law_winds", "_law_bonds", "_law_far", "_law_last"] (defScope s__law_drawn) := ⟨rfl, rfl, rfl, by decide +kernel, rfl, by decide +kernel, by decide +kernel⟩
abbrev N__law_lengths : List Str := ["_law_winds", "_law_found", "_law_end", "_law_begin", "_law_low", "_law_high", "_law_hush", "_law_wider", "_law_some", "_law_size", "_law_more"]
theorem sc__law_lengths : FnScope N__law_lengths ["_law_winds"] (defScope s__law_lengths) := ⟨rfl, rfl, rfl, by decide +kernel, rfl, by decide +kernel, by decide +kernel⟩
abbrev N__law_tie_holds : List Str := ["_law_bond_here", "_law_ticks", "_law_one", "_law_other", "_law_bot", "_law_top", "_law_gap"]
theorem sc__law_tie_holds : FnScope N__law_tie_holds ["_law_bond_here", "_law_ticks"] (defScope s__law_tie_holds) := ⟨rfl, rfl, rfl, by decide +kernel, rfl, by decide +kernel, by decide +kernel⟩
abbrev N__law_come : List Str := ["_law_m", "_law_ticks", "_law_sizes", "_law_found", "_law_end", "_law_begin", "_law_low", "_law_high", "_law_hush"]
theorem sc__law_come : FnScope N__law_come ["_law_m", "_law_ticks", "_law_sizes"] (defScope s__law_come) := ⟨rfl, rfl, rfl, by decide +kernel, rfl, by decide +kernel, by decide +kernel⟩
abbrev N__law_all_hold : List Str := ["_law_m", "_law_ticks", "_law_sizes", "_law_hidden", "_law_more", "_law_whole", "_law_come_here", "_law_wind_here", "_law_bond_here"]
theorem sc__law_all_hold : FnScope N__law_all_hold ["_law_m", "_law_ticks", "_law_sizes"] (defScope s__law_all_hold) := ⟨rfl, rfl, rfl, by decide +kernel, rfl, by decide +kernel, by decide +kernel⟩
abbrev N__law_bounds_hold : List Str := ["_law_rows", "_law_ticks", "_law_x", "_law_y", "_law_amount"]
theorem sc__law_bounds_hold : FnScope N__law_bounds_hold ["_law_rows", "_law_ticks"] (defScope s__law_bounds_hold) := ⟨rfl, rfl, rfl, by decide +kernel, rfl, by decide +kernel, by decide +kernel⟩
abbrev N_law : List Str := ["_law_script", "_law_flow_here", "_law_own", "_law_winds", "_law_m", "_law_rows", "_law_turn", "_law_ticks", "_law_good", "_law_name", "_law_sizes", "_law_heard", "_law_end", "_law_begin", "_law_low", "_law_high", "_law_hush", "_law_due"]
theorem sc_law : FnScope N_law ["_law_script"] (defScope s_law) := ⟨rfl, rfl, rfl, by decide +kernel, rfl, by decide +kernel, by decide +kernel⟩
def d_is_number : He.DefD := ⟨("is_number", none), "is_number", "is_number", defArgs s_is_number, defBody s_is_number, defScope s_is_number, [], []⟩
def d_is_whole : He.DefD := ⟨("is_whole", none), "is_whole", "is_whole", defArgs s_is_whole, defBody s_is_whole, defScope s_is_whole, [], []⟩
def d_is_one_of : He.DefD := ⟨("is_one_of", none), "is_one_of", "is_one_of", defArgs s_is_one_of, defBody s_is_one_of, defScope s_is_one_of, [], []⟩
def d_is_name : He.DefD := ⟨("is_name", none), "is_name", "is_name", defArgs s_is_name, defBody s_is_name, defScope s_is_name, [], []⟩
def d_Web_UinitU : He.DefD := ⟨("Web", some "__init__"), "__init__", "Web.__init__", defArgs s_Web_UinitU, defBody s_Web_UinitU, defScope s_Web_UinitU, [.int 100], []⟩
def d_Web_with_moment : He.DefD := ⟨("Web", some "with_moment"), "with_moment", "Web.with_moment", defArgs s_Web_with_moment, defBody s_Web_with_moment, defScope s_Web_with_moment, [], []⟩
def d_Web_with_span : He.DefD := ⟨("Web", some "with_span"), "with_span", "Web.with_span", defArgs s_Web_with_span, defBody s_Web_with_span, defScope s_Web_with_span, [], [("late", .int 0)]⟩
def d_Web_with_tie : He.DefD := ⟨("Web", some "with_tie"), "with_tie", "Web.with_tie", defArgs s_Web_with_tie, defBody s_Web_with_tie, defScope s_Web_with_tie, [], [("least", .non), ("most", .non)]⟩
def d_Web_moments : He.DefD := ⟨("Web", some "moments"), "moments", "Web.moments", defArgs s_Web_moments, defBody s_Web_moments, defScope s_Web_moments, [], []⟩
def d_Web_spans : He.DefD := ⟨("Web", some "spans"), "spans", "Web.spans", defArgs s_Web_spans, defBody s_Web_spans, defScope s_Web_spans, [], []⟩
def d_Web_ties : He.DefD := ⟨("Web", some "ties"), "ties", "Web.ties", defArgs s_Web_ties, defBody s_Web_ties, defScope s_Web_ties, [], []⟩
def d_Web_points : He.DefD := ⟨("Web", some "points"), "points", "Web.points", defArgs s_Web_points, defBody s_Web_points, defScope s_Web_points, [], []⟩
def d_Web_UeqU : He.DefD := ⟨("Web", some "__eq__"), "__eq__", "Web.__eq__", defArgs s_Web_UeqU, defBody s_Web_UeqU, defScope s_Web_UeqU, [], []⟩
def d_Web_UlenU : He.DefD := ⟨("Web", some "__len__"), "__len__", "Web.__len__", defArgs s_Web_UlenU, defBody s_Web_UlenU, defScope s_Web_UlenU, [], []⟩
def d_Web_UreprU : He.DefD := ⟨("Web", some "__repr__"), "__repr__", "Web.__repr__", defArgs s_Web_UreprU, defBody s_Web_UreprU, defScope s_Web_UreprU, [], []⟩
def d_woven : He.DefD := ⟨("woven", none), "woven", "woven", defArgs s_woven, defBody s_woven, defScope s_woven, [], []⟩
def d_is_begin : He.DefD := ⟨("is_begin", none), "is_begin", "is_begin", defArgs s_is_begin, defBody s_is_begin, defScope s_is_begin, [], []⟩
def d_are_lengths : He.DefD := ⟨("are_lengths", none), "are_lengths", "are_lengths", defArgs s_are_lengths, defBody s_are_lengths, defScope s_are_lengths, [], []⟩
def d_is_lateness : He.DefD := ⟨("is_lateness", none), "is_lateness", "is_lateness", defArgs s_is_lateness, defBody s_is_lateness, defScope s_is_lateness, [], []⟩
def d_are_bounds : He.DefD := ⟨("are_bounds", none), "are_bounds", "are_bounds", defArgs s_are_bounds, defBody s_are_bounds, defScope s_are_bounds, [], []⟩
def d_need_free_name : He.DefD := ⟨("need_free_name", none), "need_free_name", "need_free_name", defArgs s_need_free_name, defBody s_need_free_name, defScope s_need_free_name, [], []⟩
def d_need_point : He.DefD := ⟨("need_point", none), "need_point", "need_point", defArgs s_need_point, defBody s_need_point, defScope s_need_point, [], []⟩
def d_offset : He.DefD := ⟨("offset", none), "offset", "offset", defArgs s_offset, defBody s_offset, defScope s_offset, [], []⟩
def d_bounds : He.DefD := ⟨("bounds", none), "bounds", "bounds", defArgs s_bounds, defBody s_bounds, defScope s_bounds, [], []⟩
def d_tie_bounds : He.DefD := ⟨("tie_bounds", none), "tie_bounds", "tie_bounds", defArgs s_tie_bounds, defBody s_tie_bounds, defScope s_tie_bounds, [], []⟩
def d_heard_spans : He.DefD := ⟨("heard_spans", none), "heard_spans", "heard_spans", defArgs s_heard_spans, defBody s_heard_spans, defScope s_heard_spans, [], []⟩
def d__law_flow : He.DefD := ⟨("_law_flow", none), "_law_flow", "_law_flow", defArgs s__law_flow, defBody s__law_flow, defScope s__law_flow, [], []⟩
def d__law_draw : He.DefD := ⟨("_law_draw", none), "_law_draw", "_law_draw", defArgs s__law_draw, defBody s__law_draw, defScope s__law_draw, [], []⟩
def d__law_pick : He.DefD := ⟨("_law_pick", none), "_law_pick", "_law_pick", defArgs s__law_pick, defBody s__law_pick, defScope s__law_pick, [], []⟩
def d__law_names : He.DefD := ⟨("_law_names", none), "_law_names", "_law_names", defArgs s__law_names, defBody s__law_names, defScope s__law_names, [], []⟩
def d__law_model : He.DefD := ⟨("_law_model", none), "_law_model", "_law_model", defArgs s__law_model, defBody s__law_model, defScope s__law_model, [], []⟩
def d__law_points : He.DefD := ⟨("_law_points", none), "_law_points", "_law_points", defArgs s__law_points, defBody s__law_points, defScope s__law_points, [], []⟩
def d__law_web : He.DefD := ⟨("_law_web", none), "_law_web", "_law_web", defArgs s__law_web, defBody s__law_web, defScope s__law_web, [], []⟩
def d__law_wind : He.DefD := ⟨("_law_wind", none), "_law_wind", "_law_wind", defArgs s__law_wind, defBody s__law_wind, defScope s__law_wind, [], []⟩
def d__law_bond : He.DefD := ⟨("_law_bond", none), "_law_bond", "_law_bond", defArgs s__law_bond, defBody s__law_bond, defScope s__law_bond, [], []⟩
def d__law_drawn : He.DefD := ⟨("_law_drawn", none), "_law_drawn", "_law_drawn", defArgs s__law_drawn, defBody s__law_drawn, defScope s__law_drawn, [], []⟩
def d__law_lengths : He.DefD := ⟨("_law_lengths", none), "_law_lengths", "_law_lengths", defArgs s__law_lengths, defBody s__law_lengths, defScope s__law_lengths, [], []⟩
def d__law_tie_holds : He.DefD := ⟨("_law_tie_holds", none), "_law_tie_holds", "_law_tie_holds", defArgs s__law_tie_holds, defBody s__law_tie_holds, defScope s__law_tie_holds, [], []⟩
def d__law_come : He.DefD := ⟨("_law_come", none), "_law_come", "_law_come", defArgs s__law_come, defBody s__law_come, defScope s__law_come, [], []⟩
def d__law_all_hold : He.DefD := ⟨("_law_all_hold", none), "_law_all_hold", "_law_all_hold", defArgs s__law_all_hold, defBody s__law_all_hold, defScope s__law_all_hold, [], []⟩
def d__law_bounds_hold : He.DefD := ⟨("_law_bounds_hold", none), "_law_bounds_hold", "_law_bounds_hold", defArgs s__law_bounds_hold, defBody s__law_bounds_hold, defScope s__law_bounds_hold, [], []⟩
def d_law : He.DefD := ⟨("law", none), "law", "law", defArgs s_law, defBody s_law, defScope s_law, [], []⟩
def fn : List He.DefD := [d_is_number, d_is_whole, d_is_one_of, d_is_name, d_Web_UinitU, d_Web_with_moment, d_Web_with_span, d_Web_with_tie, d_Web_moments, d_Web_spans, d_Web_ties, d_Web_points, d_Web_UeqU, d_Web_UlenU, d_Web_UreprU, d_woven, d_is_begin, d_are_lengths, d_is_lateness, d_are_bounds, d_need_free_name, d_need_point, d_offset, d_bounds, d_tie_bounds, d_heard_spans, d__law_flow, d__law_draw, d__law_pick, d__law_names, d__law_model, d__law_points, d__law_web, d__law_wind, d__law_bond, d__law_drawn, d__law_lengths, d__law_tie_holds, d__law_come, d__law_all_hold, d__law_bounds_hold, d_law]
def fa0 : List He.Fa := [.glo "is_number", .glo "is_whole", .glo "is_one_of", .glo "is_name", .glo "woven", .glo "is_begin", .glo "are_lengths", .glo "is_lateness", .glo "are_bounds", .glo "need_free_name", .glo "need_point", .glo "offset", .glo "bounds", .glo "tie_bounds", .glo "heard_spans", .glo "_law_flow", .glo "_law_draw", .glo "_law_pick", .glo "_law_names", .glo "_law_model", .glo "_law_points", .glo "_law_web", .glo "_law_wind", .glo "_law_bond", .glo "_law_drawn", .glo "_law_lengths", .glo "_law_tie_holds", .glo "_law_come", .glo "_law_all_hold", .glo "_law_bounds_hold"]
def fa1 : List He.Fa := [.glo "law", .free "isinstance", .free "int", .free "bool", .free "str", .free "all", .free "len", .free "list", .free "tuple", .free "abs", .free "range", .free "dict", .str "LETTERS" "abcdefghijklmnopqrstuvwxyz", .int "LONGEST_NAME" 8, .int "BY" 100, .str "START" "start", .int "MOST_BY" 1000, .int "MOST_MOMENTS" 10, .int "MOST_SPANS" 4, .int "MOST_TIES" 40, .int "MOST_LENGTH" 1000, .int "MOST_LATE" 1000, .int "MOST_BOUND" 1000, .glo "Web", .cls "Web", .mkr "Web", .noat "Web" "by", .noat "Web" "moment_rows", .noat "Web" "span_rows", .noat "Web" "tie_rows"]
def fa2 : List He.Fa := [.noat "Web" "__bool__", .meth "Web" "__init__", .meth "Web" "with_moment", .meth "Web" "with_span", .meth "Web" "with_tie", .meth "Web" "moments", .meth "Web" "spans", .meth "Web" "ties", .meth "Web" "points", .meth "Web" "__eq__", .meth "Web" "__len__", .meth "Web" "__repr__"]
def fa : List He.Fa := fa0 ++ fa1 ++ fa2
def exl (K : PySem.W.Frag) : List Bool := []
def ex (K : PySem.W.Frag) : Bool := (exl K).all id
theorem exAt {K : PySem.W.Frag} (h : ex K = true) (i : Nat) {b : Bool} (e : (exl K)[i]? = some b) : b = true := List.all_eq_true.mp h b (List.mem_of_getElem? e)
/-- what the top has written -/
structure Tp (K : PySem.W.Frag) (mg : Str → Option Value) : Prop where
  c : He.SaysD fa fn K
  m : ex K = true
  glo : ∀ (i : Nat) (x : Str), fa[i]? = some (.glo x) → mg x = some (.ref (He.ga K x))
  free : ∀ (i : Nat) (x : Str), fa[i]? = some (.free x) → mg x = none
  int : ∀ (i : Nat) (x : Str) (n : Int), fa[i]? = some (.int x n) → ∃ u, mg x = some u ∧ RelV (.int n) u
  str : ∀ (i : Nat) (x z : Str), fa[i]? = some (.str x z) → ∃ u, mg x = some u ∧ RelV (.str z) u
theorem tp_mk {K : PySem.W.Frag} {h : Heap} {mg : Str → Option Value} (X : K.In h) (G : h.Ns mainGlobals mg) (c : He.SaysD fa fn K) (m : ex K = true) : Tp K mg :=
  ⟨c, m, fun i x e => He.glo_ok X G (c.fact i e), fun i x e => He.free_ok X G (c.fact i e), fun i x n e => let ⟨t, h⟩ := He.int_ok X G (c.fact i e); ⟨_, h, t, rfl⟩, fun i x z e => let ⟨t, h⟩ := He.str_ok X G (c.fact i e); ⟨_, h, t, rfl⟩⟩
section
variable {K : PySem.W.Frag} {mg : Str → Option Value}
theorem g_is_number (T : Tp K mg) : mg "is_number" = some (.ref (He.ga K "is_number")) := T.glo 0 _ rfl
theorem g_is_whole (T : Tp K mg) : mg "is_whole" = some (.ref (He.ga K "is_whole")) := T.glo 1 _ rfl
theorem g_is_one_of (T : Tp K mg) : mg "is_one_of" = some (.ref (He.ga K "is_one_of")) := T.glo 2 _ rfl
theorem g_is_name (T : Tp K mg) : mg "is_name" = some (.ref (He.ga K "is_name")) := T.glo 3 _ rfl
theorem g_woven (T : Tp K mg) : mg "woven" = some (.ref (He.ga K "woven")) := T.glo 4 _ rfl
theorem g_is_begin (T : Tp K mg) : mg "is_begin" = some (.ref (He.ga K "is_begin")) := T.glo 5 _ rfl
theorem g_are_lengths (T : Tp K mg) : mg "are_lengths" = some (.ref (He.ga K "are_lengths")) := T.glo 6 _ rfl
theorem g_is_lateness (T : Tp K mg) : mg "is_lateness" = some (.ref (He.ga K "is_lateness")) := T.glo 7 _ rfl
theorem g_are_bounds (T : Tp K mg) : mg "are_bounds" = some (.ref (He.ga K "are_bounds")) := T.glo 8 _ rfl
theorem g_need_free_name (T : Tp K mg) : mg "need_free_name" = some (.ref (He.ga K "need_free_name")) := T.glo 9 _ rfl
theorem g_need_point (T : Tp K mg) : mg "need_point" = some (.ref (He.ga K "need_point")) := T.glo 10 _ rfl
theorem g_offset (T : Tp K mg) : mg "offset" = some (.ref (He.ga K "offset")) := T.glo 11 _ rfl
theorem g_bounds (T : Tp K mg) : mg "bounds" = some (.ref (He.ga K "bounds")) := T.glo 12 _ rfl
theorem g_tie_bounds (T : Tp K mg) : mg "tie_bounds" = some (.ref (He.ga K "tie_bounds")) := T.glo 13 _ rfl
theorem g_heard_spans (T : Tp K mg) : mg "heard_spans" = some (.ref (He.ga K "heard_spans")) := T.glo 14 _ rfl
theorem g__law_flow (T : Tp K mg) : mg "_law_flow" = some (.ref (He.ga K "_law_flow")) := T.glo 15 _ rfl
theorem g__law_draw (T : Tp K mg) : mg "_law_draw" = some (.ref (He.ga K "_law_draw")) := T.glo 16 _ rfl
theorem g__law_pick (T : Tp K mg) : mg "_law_pick" = some (.ref (He.ga K "_law_pick")) := T.glo 17 _ rfl
theorem g__law_names (T : Tp K mg) : mg "_law_names" = some (.ref (He.ga K "_law_names")) := T.glo 18 _ rfl
theorem g__law_model (T : Tp K mg) : mg "_law_model" = some (.ref (He.ga K "_law_model")) := T.glo 19 _ rfl
theorem g__law_points (T : Tp K mg) : mg "_law_points" = some (.ref (He.ga K "_law_points")) := T.glo 20 _ rfl
theorem g__law_web (T : Tp K mg) : mg "_law_web" = some (.ref (He.ga K "_law_web")) := T.glo 21 _ rfl
theorem g__law_wind (T : Tp K mg) : mg "_law_wind" = some (.ref (He.ga K "_law_wind")) := T.glo 22 _ rfl
theorem g__law_bond (T : Tp K mg) : mg "_law_bond" = some (.ref (He.ga K "_law_bond")) := T.glo 23 _ rfl
theorem g__law_drawn (T : Tp K mg) : mg "_law_drawn" = some (.ref (He.ga K "_law_drawn")) := T.glo 24 _ rfl
theorem g__law_lengths (T : Tp K mg) : mg "_law_lengths" = some (.ref (He.ga K "_law_lengths")) := T.glo 25 _ rfl
theorem g__law_tie_holds (T : Tp K mg) : mg "_law_tie_holds" = some (.ref (He.ga K "_law_tie_holds")) := T.glo 26 _ rfl
theorem g__law_come (T : Tp K mg) : mg "_law_come" = some (.ref (He.ga K "_law_come")) := T.glo 27 _ rfl
theorem g__law_all_hold (T : Tp K mg) : mg "_law_all_hold" = some (.ref (He.ga K "_law_all_hold")) := T.glo 28 _ rfl
theorem g__law_bounds_hold (T : Tp K mg) : mg "_law_bounds_hold" = some (.ref (He.ga K "_law_bounds_hold")) := T.glo 29 _ rfl
theorem g_law (T : Tp K mg) : mg "law" = some (.ref (He.ga K "law")) := T.glo 30 _ rfl
theorem z_isinstance (T : Tp K mg) : mg "isinstance" = none := T.free 31 _ rfl
theorem z_int (T : Tp K mg) : mg "int" = none := T.free 32 _ rfl
theorem z_bool (T : Tp K mg) : mg "bool" = none := T.free 33 _ rfl
theorem z_str (T : Tp K mg) : mg "str" = none := T.free 34 _ rfl
theorem z_all (T : Tp K mg) : mg "all" = none := T.free 35 _ rfl
theorem z_len (T : Tp K mg) : mg "len" = none := T.free 36 _ rfl
theorem z_list (T : Tp K mg) : mg "list" = none := T.free 37 _ rfl
theorem z_tuple (T : Tp K mg) : mg "tuple" = none := T.free 38 _ rfl
theorem z_abs (T : Tp K mg) : mg "abs" = none := T.free 39 _ rfl
theorem z_range (T : Tp K mg) : mg "range" = none := T.free 40 _ rfl
theorem z_dict (T : Tp K mg) : mg "dict" = none := T.free 41 _ rfl
theorem c_LETTERS (T : Tp K mg) : ∃ u, mg "LETTERS" = some u ∧ RelV (.str "abcdefghijklmnopqrstuvwxyz") u := T.str 42 _ _ rfl
theorem c_LONGEST_NAME (T : Tp K mg) : ∃ u, mg "LONGEST_NAME" = some u ∧ RelV (.int 8) u := T.int 43 _ _ rfl
theorem c_BY (T : Tp K mg) : ∃ u, mg "BY" = some u ∧ RelV (.int 100) u := T.int 44 _ _ rfl
theorem c_START (T : Tp K mg) : ∃ u, mg "START" = some u ∧ RelV (.str "start") u := T.str 45 _ _ rfl
theorem c_MOST_BY (T : Tp K mg) : ∃ u, mg "MOST_BY" = some u ∧ RelV (.int 1000) u := T.int 46 _ _ rfl
theorem c_MOST_MOMENTS (T : Tp K mg) : ∃ u, mg "MOST_MOMENTS" = some u ∧ RelV (.int 10) u := T.int 47 _ _ rfl
theorem c_MOST_SPANS (T : Tp K mg) : ∃ u, mg "MOST_SPANS" = some u ∧ RelV (.int 4) u := T.int 48 _ _ rfl
theorem c_MOST_TIES (T : Tp K mg) : ∃ u, mg "MOST_TIES" = some u ∧ RelV (.int 40) u := T.int 49 _ _ rfl
theorem c_MOST_LENGTH (T : Tp K mg) : ∃ u, mg "MOST_LENGTH" = some u ∧ RelV (.int 1000) u := T.int 50 _ _ rfl
theorem c_MOST_LATE (T : Tp K mg) : ∃ u, mg "MOST_LATE" = some u ∧ RelV (.int 1000) u := T.int 51 _ _ rfl
theorem c_MOST_BOUND (T : Tp K mg) : ∃ u, mg "MOST_BOUND" = some u ∧ RelV (.int 1000) u := T.int 52 _ _ rfl
theorem g_Web (T : Tp K mg) : mg "Web" = some (.ref (He.ga K "Web")) := T.glo 53 _ rfl
theorem cl_Web (T : Tp K mg) : Cls K (He.ga K "Web") := He.cls_ok (T.c.fact 54 (f := .cls "Web") rfl)
theorem mk_Web (T : Tp K mg) : Mk K (He.ga K "Web") (He.ma K (He.ga K "Web") "__init__") := He.mkr_ok (T.c.fact 55 (f := .mkr "Web") rfl)
theorem na_by (T : Tp K mg) : NoAttr K (He.ga K "Web") "by" := He.noat_ok (T.c.fact 56 (f := .noat "Web" "by") rfl)
theorem na_moment_rows (T : Tp K mg) : NoAttr K (He.ga K "Web") "moment_rows" := He.noat_ok (T.c.fact 57 (f := .noat "Web" "moment_rows") rfl)
theorem na_span_rows (T : Tp K mg) : NoAttr K (He.ga K "Web") "span_rows" := He.noat_ok (T.c.fact 58 (f := .noat "Web" "span_rows") rfl)
theorem na_tie_rows (T : Tp K mg) : NoAttr K (He.ga K "Web") "tie_rows" := He.noat_ok (T.c.fact 59 (f := .noat "Web" "tie_rows") rfl)
theorem na_bool (T : Tp K mg) : NoAttr K (He.ga K "Web") "__bool__" := He.noat_ok (T.c.fact 60 (f := .noat "Web" "__bool__") rfl)
theorem me_Web_UinitU (T : Tp K mg) : Meth K (He.ga K "Web") "__init__" (He.ma K (He.ga K "Web") "__init__") := He.meth_ok (T.c.fact 61 (f := .meth "Web" "__init__") rfl)
theorem me_Web_with_moment (T : Tp K mg) : Meth K (He.ga K "Web") "with_moment" (He.ma K (He.ga K "Web") "with_moment") := He.meth_ok (T.c.fact 62 (f := .meth "Web" "with_moment") rfl)
theorem me_Web_with_span (T : Tp K mg) : Meth K (He.ga K "Web") "with_span" (He.ma K (He.ga K "Web") "with_span") := He.meth_ok (T.c.fact 63 (f := .meth "Web" "with_span") rfl)
theorem me_Web_with_tie (T : Tp K mg) : Meth K (He.ga K "Web") "with_tie" (He.ma K (He.ga K "Web") "with_tie") := He.meth_ok (T.c.fact 64 (f := .meth "Web" "with_tie") rfl)
theorem me_Web_moments (T : Tp K mg) : Meth K (He.ga K "Web") "moments" (He.ma K (He.ga K "Web") "moments") := He.meth_ok (T.c.fact 65 (f := .meth "Web" "moments") rfl)
theorem me_Web_spans (T : Tp K mg) : Meth K (He.ga K "Web") "spans" (He.ma K (He.ga K "Web") "spans") := He.meth_ok (T.c.fact 66 (f := .meth "Web" "spans") rfl)
theorem me_Web_ties (T : Tp K mg) : Meth K (He.ga K "Web") "ties" (He.ma K (He.ga K "Web") "ties") := He.meth_ok (T.c.fact 67 (f := .meth "Web" "ties") rfl)
theorem me_Web_points (T : Tp K mg) : Meth K (He.ga K "Web") "points" (He.ma K (He.ga K "Web") "points") := He.meth_ok (T.c.fact 68 (f := .meth "Web" "points") rfl)
theorem me_Web_UeqU (T : Tp K mg) : Meth K (He.ga K "Web") "__eq__" (He.ma K (He.ga K "Web") "__eq__") := He.meth_ok (T.c.fact 69 (f := .meth "Web" "__eq__") rfl)
theorem me_Web_UlenU (T : Tp K mg) : Meth K (He.ga K "Web") "__len__" (He.ma K (He.ga K "Web") "__len__") := He.meth_ok (T.c.fact 70 (f := .meth "Web" "__len__") rfl)
theorem me_Web_UreprU (T : Tp K mg) : Meth K (He.ga K "Web") "__repr__" (He.ma K (He.ga K "Web") "__repr__") := He.meth_ok (T.c.fact 71 (f := .meth "Web" "__repr__") rfl)
theorem f_is_number (T : Tp K mg) : ∃ fd, FunD K "is_number" "is_number" (defArgs s_is_number) (defBody s_is_number) (defScope s_is_number) [] [] (He.ga K "is_number") fd := T.c.def_ 0 (d := d_is_number) rfl
theorem b_is_number {f : Addr} {fd : FuncData} (F : FunD K "is_number" "is_number" (defArgs s_is_number) (defBody s_is_number) (defScope s_is_number) [] [] f fd) : Binds K fd ["thing"] [] := F.bindsN fun _ _ _ _ _ _ us hl => match us, hl with | [_], _ => rfl
theorem f_is_whole (T : Tp K mg) : ∃ fd, FunD K "is_whole" "is_whole" (defArgs s_is_whole) (defBody s_is_whole) (defScope s_is_whole) [] [] (He.ga K "is_whole") fd := T.c.def_ 1 (d := d_is_whole) rfl
theorem b_is_whole {f : Addr} {fd : FuncData} (F : FunD K "is_whole" "is_whole" (defArgs s_is_whole) (defBody s_is_whole) (defScope s_is_whole) [] [] f fd) : Binds K fd ["thing", "least", "most"] [] := F.bindsN fun _ _ _ _ _ _ us hl => match us, hl with | [_, _, _], _ => rfl
theorem f_is_one_of (T : Tp K mg) : ∃ fd, FunD K "is_one_of" "is_one_of" (defArgs s_is_one_of) (defBody s_is_one_of) (defScope s_is_one_of) [] [] (He.ga K "is_one_of") fd := T.c.def_ 2 (d := d_is_one_of) rfl
theorem b_is_one_of {f : Addr} {fd : FuncData} (F : FunD K "is_one_of" "is_one_of" (defArgs s_is_one_of) (defBody s_is_one_of) (defScope s_is_one_of) [] [] f fd) : Binds K fd ["thing", "names"] [] := F.bindsN fun _ _ _ _ _ _ us hl => match us, hl with | [_, _], _ => rfl
theorem f_is_name (T : Tp K mg) : ∃ fd, FunD K "is_name" "is_name" (defArgs s_is_name) (defBody s_is_name) (defScope s_is_name) [] [] (He.ga K "is_name") fd := T.c.def_ 3 (d := d_is_name) rfl
theorem b_is_name {f : Addr} {fd : FuncData} (F : FunD K "is_name" "is_name" (defArgs s_is_name) (defBody s_is_name) (defScope s_is_name) [] [] f fd) : Binds K fd ["thing"] [] := F.bindsN fun _ _ _ _ _ _ us hl => match us, hl with | [_], _ => rfl
theorem f_Web_UinitU (T : Tp K mg) : ∃ fd, FunD K "__init__" "Web.__init__" (defArgs s_Web_UinitU) (defBody s_Web_UinitU) (defScope s_Web_UinitU) [(V.int 100 : V)] [] (He.ma K (He.ga K "Web") "__init__") fd := T.c.def_ 4 (d := d_Web_UinitU) rfl
theorem f_Web_with_moment (T : Tp K mg) : ∃ fd, FunD K "with_moment" "Web.with_moment" (defArgs s_Web_with_moment) (defBody s_Web_with_moment) (defScope s_Web_with_moment) [] [] (He.ma K (He.ga K "Web") "with_moment") fd := T.c.def_ 5 (d := d_Web_with_moment) rfl
theorem b_Web_with_moment {f : Addr} {fd : FuncData} (F : FunD K "with_moment" "Web.with_moment" (defArgs s_Web_with_moment) (defBody s_Web_with_moment) (defScope s_Web_with_moment) [] [] f fd) : Binds K fd ["self", "name"] [] := F.bindsN fun _ _ _ _ _ _ us hl => match us, hl with | [_, _], _ => rfl
theorem f_Web_with_span (T : Tp K mg) : ∃ fd, FunD K "with_span" "Web.with_span" (defArgs s_Web_with_span) (defBody s_Web_with_span) (defScope s_Web_with_span) [] [("late", V.int 0)] (He.ma K (He.ga K "Web") "with_span") fd := T.c.def_ 6 (d := d_Web_with_span) rfl
theorem f_Web_with_tie (T : Tp K mg) : ∃ fd, FunD K "with_tie" "Web.with_tie" (defArgs s_Web_with_tie) (defBody s_Web_with_tie) (defScope s_Web_with_tie) [] [("least", V.non), ("most", V.non)] (He.ma K (He.ga K "Web") "with_tie") fd := T.c.def_ 7 (d := d_Web_with_tie) rfl
theorem f_Web_moments (T : Tp K mg) : ∃ fd, FunD K "moments" "Web.moments" (defArgs s_Web_moments) (defBody s_Web_moments) (defScope s_Web_moments) [] [] (He.ma K (He.ga K "Web") "moments") fd := T.c.def_ 8 (d := d_Web_moments) rfl
theorem b_Web_moments {f : Addr} {fd : FuncData} (F : FunD K "moments" "Web.moments" (defArgs s_Web_moments) (defBody s_Web_moments) (defScope s_Web_moments) [] [] f fd) : Binds K fd ["self"] [] := F.bindsN fun _ _ _ _ _ _ us hl => match us, hl with | [_], _ => rfl
theorem f_Web_spans (T : Tp K mg) : ∃ fd, FunD K "spans" "Web.spans" (defArgs s_Web_spans) (defBody s_Web_spans) (defScope s_Web_spans) [] [] (He.ma K (He.ga K "Web") "spans") fd := T.c.def_ 9 (d := d_Web_spans) rfl
theorem b_Web_spans {f : Addr} {fd : FuncData} (F : FunD K "spans" "Web.spans" (defArgs s_Web_spans) (defBody s_Web_spans) (defScope s_Web_spans) [] [] f fd) : Binds K fd ["self"] [] := F.bindsN fun _ _ _ _ _ _ us hl => match us, hl with | [_], _ => rfl
theorem f_Web_ties (T : Tp K mg) : ∃ fd, FunD K "ties" "Web.ties" (defArgs s_Web_ties) (defBody s_Web_ties) (defScope s_Web_ties) [] [] (He.ma K (He.ga K "Web") "ties") fd := T.c.def_ 10 (d := d_Web_ties) rfl
theorem b_Web_ties {f : Addr} {fd : FuncData} (F : FunD K "ties" "Web.ties" (defArgs s_Web_ties) (defBody s_Web_ties) (defScope s_Web_ties) [] [] f fd) : Binds K fd ["self"] [] := F.bindsN fun _ _ _ _ _ _ us hl => match us, hl with | [_], _ => rfl
theorem f_Web_points (T : Tp K mg) : ∃ fd, FunD K "points" "Web.points" (defArgs s_Web_points) (defBody s_Web_points) (defScope s_Web_points) [] [] (He.ma K (He.ga K "Web") "points") fd := T.c.def_ 11 (d := d_Web_points) rfl
theorem b_Web_points {f : Addr} {fd : FuncData} (F : FunD K "points" "Web.points" (defArgs s_Web_points) (defBody s_Web_points) (defScope s_Web_points) [] [] f fd) : Binds K fd ["self"] [] := F.bindsN fun _ _ _ _ _ _ us hl => match us, hl with | [_], _ => rfl
theorem f_Web_UeqU (T : Tp K mg) : ∃ fd, FunD K "__eq__" "Web.__eq__" (defArgs s_Web_UeqU) (defBody s_Web_UeqU) (defScope s_Web_UeqU) [] [] (He.ma K (He.ga K "Web") "__eq__") fd := T.c.def_ 12 (d := d_Web_UeqU) rfl
theorem b_Web_UeqU {f : Addr} {fd : FuncData} (F : FunD K "__eq__" "Web.__eq__" (defArgs s_Web_UeqU) (defBody s_Web_UeqU) (defScope s_Web_UeqU) [] [] f fd) : Binds K fd ["self", "other"] [] := F.bindsN fun _ _ _ _ _ _ us hl => match us, hl with | [_, _], _ => rfl
theorem f_Web_UlenU (T : Tp K mg) : ∃ fd, FunD K "__len__" "Web.__len__" (defArgs s_Web_UlenU) (defBody s_Web_UlenU) (defScope s_Web_UlenU) [] [] (He.ma K (He.ga K "Web") "__len__") fd := T.c.def_ 13 (d := d_Web_UlenU) rfl
theorem b_Web_UlenU {f : Addr} {fd : FuncData} (F : FunD K "__len__" "Web.__len__" (defArgs s_Web_UlenU) (defBody s_Web_UlenU) (defScope s_Web_UlenU) [] [] f fd) : Binds K fd ["self"] [] := F.bindsN fun _ _ _ _ _ _ us hl => match us, hl with | [_], _ => rfl
theorem f_Web_UreprU (T : Tp K mg) : ∃ fd, FunD K "__repr__" "Web.__repr__" (defArgs s_Web_UreprU) (defBody s_Web_UreprU) (defScope s_Web_UreprU) [] [] (He.ma K (He.ga K "Web") "__repr__") fd := T.c.def_ 14 (d := d_Web_UreprU) rfl
theorem b_Web_UreprU {f : Addr} {fd : FuncData} (F : FunD K "__repr__" "Web.__repr__" (defArgs s_Web_UreprU) (defBody s_Web_UreprU) (defScope s_Web_UreprU) [] [] f fd) : Binds K fd ["self"] [] := F.bindsN fun _ _ _ _ _ _ us hl => match us, hl with | [_], _ => rfl
theorem f_woven (T : Tp K mg) : ∃ fd, FunD K "woven" "woven" (defArgs s_woven) (defBody s_woven) (defScope s_woven) [] [] (He.ga K "woven") fd := T.c.def_ 15 (d := d_woven) rfl
theorem b_woven {f : Addr} {fd : FuncData} (F : FunD K "woven" "woven" (defArgs s_woven) (defBody s_woven) (defScope s_woven) [] [] f fd) : Binds K fd ["by", "moments", "spans", "ties"] [] := F.bindsN fun _ _ _ _ _ _ us hl => match us, hl with | [_, _, _, _], _ => rfl
theorem f_is_begin (T : Tp K mg) : ∃ fd, FunD K "is_begin" "is_begin" (defArgs s_is_begin) (defBody s_is_begin) (defScope s_is_begin) [] [] (He.ga K "is_begin") fd := T.c.def_ 16 (d := d_is_begin) rfl
theorem b_is_begin {f : Addr} {fd : FuncData} (F : FunD K "is_begin" "is_begin" (defArgs s_is_begin) (defBody s_is_begin) (defScope s_is_begin) [] [] f fd) : Binds K fd ["web", "name"] [] := F.bindsN fun _ _ _ _ _ _ us hl => match us, hl with | [_, _], _ => rfl
theorem f_are_lengths (T : Tp K mg) : ∃ fd, FunD K "are_lengths" "are_lengths" (defArgs s_are_lengths) (defBody s_are_lengths) (defScope s_are_lengths) [] [] (He.ga K "are_lengths") fd := T.c.def_ 17 (d := d_are_lengths) rfl
theorem b_are_lengths {f : Addr} {fd : FuncData} (F : FunD K "are_lengths" "are_lengths" (defArgs s_are_lengths) (defBody s_are_lengths) (defScope s_are_lengths) [] [] f fd) : Binds K fd ["low", "high"] [] := F.bindsN fun _ _ _ _ _ _ us hl => match us, hl with | [_, _], _ => rfl
theorem f_is_lateness (T : Tp K mg) : ∃ fd, FunD K "is_lateness" "is_lateness" (defArgs s_is_lateness) (defBody s_is_lateness) (defScope s_is_lateness) [] [] (He.ga K "is_lateness") fd := T.c.def_ 18 (d := d_is_lateness) rfl
theorem b_is_lateness {f : Addr} {fd : FuncData} (F : FunD K "is_lateness" "is_lateness" (defArgs s_is_lateness) (defBody s_is_lateness) (defScope s_is_lateness) [] [] f fd) : Binds K fd ["late"] [] := F.bindsN fun _ _ _ _ _ _ us hl => match us, hl with | [_], _ => rfl
theorem f_are_bounds (T : Tp K mg) : ∃ fd, FunD K "are_bounds" "are_bounds" (defArgs s_are_bounds) (defBody s_are_bounds) (defScope s_are_bounds) [] [] (He.ga K "are_bounds") fd := T.c.def_ 19 (d := d_are_bounds) rfl
theorem b_are_bounds {f : Addr} {fd : FuncData} (F : FunD K "are_bounds" "are_bounds" (defArgs s_are_bounds) (defBody s_are_bounds) (defScope s_are_bounds) [] [] f fd) : Binds K fd ["least", "most"] [] := F.bindsN fun _ _ _ _ _ _ us hl => match us, hl with | [_, _], _ => rfl
theorem f_need_free_name (T : Tp K mg) : ∃ fd, FunD K "need_free_name" "need_free_name" (defArgs s_need_free_name) (defBody s_need_free_name) (defScope s_need_free_name) [] [] (He.ga K "need_free_name") fd := T.c.def_ 20 (d := d_need_free_name) rfl
theorem b_need_free_name {f : Addr} {fd : FuncData} (F : FunD K "need_free_name" "need_free_name" (defArgs s_need_free_name) (defBody s_need_free_name) (defScope s_need_free_name) [] [] f fd) : Binds K fd ["web", "name"] [] := F.bindsN fun _ _ _ _ _ _ us hl => match us, hl with | [_, _], _ => rfl
theorem f_need_point (T : Tp K mg) : ∃ fd, FunD K "need_point" "need_point" (defArgs s_need_point) (defBody s_need_point) (defScope s_need_point) [] [] (He.ga K "need_point") fd := T.c.def_ 21 (d := d_need_point) rfl
theorem b_need_point {f : Addr} {fd : FuncData} (F : FunD K "need_point" "need_point" (defArgs s_need_point) (defBody s_need_point) (defScope s_need_point) [] [] f fd) : Binds K fd ["web", "name"] [] := F.bindsN fun _ _ _ _ _ _ us hl => match us, hl with | [_, _], _ => rfl
theorem f_offset (T : Tp K mg) : ∃ fd, FunD K "offset" "offset" (defArgs s_offset) (defBody s_offset) (defScope s_offset) [] [] (He.ga K "offset") fd := T.c.def_ 22 (d := d_offset) rfl
theorem b_offset {f : Addr} {fd : FuncData} (F : FunD K "offset" "offset" (defArgs s_offset) (defBody s_offset) (defScope s_offset) [] [] f fd) : Binds K fd ["web", "name"] [] := F.bindsN fun _ _ _ _ _ _ us hl => match us, hl with | [_, _], _ => rfl
theorem f_bounds (T : Tp K mg) : ∃ fd, FunD K "bounds" "bounds" (defArgs s_bounds) (defBody s_bounds) (defScope s_bounds) [] [] (He.ga K "bounds") fd := T.c.def_ 23 (d := d_bounds) rfl
theorem b_bounds {f : Addr} {fd : FuncData} (F : FunD K "bounds" "bounds" (defArgs s_bounds) (defBody s_bounds) (defScope s_bounds) [] [] f fd) : Binds K fd ["web"] [] := F.bindsN fun _ _ _ _ _ _ us hl => match us, hl with | [_], _ => rfl
theorem f_tie_bounds (T : Tp K mg) : ∃ fd, FunD K "tie_bounds" "tie_bounds" (defArgs s_tie_bounds) (defBody s_tie_bounds) (defScope s_tie_bounds) [] [] (He.ga K "tie_bounds") fd := T.c.def_ 24 (d := d_tie_bounds) rfl
theorem b_tie_bounds {f : Addr} {fd : FuncData} (F : FunD K "tie_bounds" "tie_bounds" (defArgs s_tie_bounds) (defBody s_tie_bounds) (defScope s_tie_bounds) [] [] f fd) : Binds K fd ["web", "tie"] [] := F.bindsN fun _ _ _ _ _ _ us hl => match us, hl with | [_, _], _ => rfl
theorem f_heard_spans (T : Tp K mg) : ∃ fd, FunD K "heard_spans" "heard_spans" (defArgs s_heard_spans) (defBody s_heard_spans) (defScope s_heard_spans) [] [] (He.ga K "heard_spans") fd := T.c.def_ 25 (d := d_heard_spans) rfl
theorem b_heard_spans {f : Addr} {fd : FuncData} (F : FunD K "heard_spans" "heard_spans" (defArgs s_heard_spans) (defBody s_heard_spans) (defScope s_heard_spans) [] [] f fd) : Binds K fd ["web"] [] := F.bindsN fun _ _ _ _ _ _ us hl => match us, hl with | [_], _ => rfl
theorem f__law_flow (T : Tp K mg) : ∃ fd, FunD K "_law_flow" "_law_flow" (defArgs s__law_flow) (defBody s__law_flow) (defScope s__law_flow) [] [] (He.ga K "_law_flow") fd := T.c.def_ 26 (d := d__law_flow) rfl
theorem b__law_flow {f : Addr} {fd : FuncData} (F : FunD K "_law_flow" "_law_flow" (defArgs s__law_flow) (defBody s__law_flow) (defScope s__law_flow) [] [] f fd) : Binds K fd ["_law_script"] [] := F.bindsN fun _ _ _ _ _ _ us hl => match us, hl with | [_], _ => rfl
theorem f__law_draw (T : Tp K mg) : ∃ fd, FunD K "_law_draw" "_law_draw" (defArgs s__law_draw) (defBody s__law_draw) (defScope s__law_draw) [] [] (He.ga K "_law_draw") fd := T.c.def_ 27 (d := d__law_draw) rfl
theorem b__law_draw {f : Addr} {fd : FuncData} (F : FunD K "_law_draw" "_law_draw" (defArgs s__law_draw) (defBody s__law_draw) (defScope s__law_draw) [] [] f fd) : Binds K fd ["_law_flow_here", "_law_size"] [] := F.bindsN fun _ _ _ _ _ _ us hl => match us, hl with | [_, _], _ => rfl
theorem f__law_pick (T : Tp K mg) : ∃ fd, FunD K "_law_pick" "_law_pick" (defArgs s__law_pick) (defBody s__law_pick) (defScope s__law_pick) [] [] (He.ga K "_law_pick") fd := T.c.def_ 28 (d := d__law_pick) rfl
theorem b__law_pick {f : Addr} {fd : FuncData} (F : FunD K "_law_pick" "_law_pick" (defArgs s__law_pick) (defBody s__law_pick) (defScope s__law_pick) [] [] f fd) : Binds K fd ["_law_flow_here", "_law_row"] [] := F.bindsN fun _ _ _ _ _ _ us hl => match us, hl with | [_, _], _ => rfl
theorem f__law_names (T : Tp K mg) : ∃ fd, FunD K "_law_names" "_law_names" (defArgs s__law_names) (defBody s__law_names) (defScope s__law_names) [] [] (He.ga K "_law_names") fd := T.c.def_ 29 (d := d__law_names) rfl
theorem b__law_names {f : Addr} {fd : FuncData} (F : FunD K "_law_names" "_law_names" (defArgs s__law_names) (defBody s__law_names) (defScope s__law_names) [] [] f fd) : Binds K fd ["_law_flow_here", "_law_many"] [] := F.bindsN fun _ _ _ _ _ _ us hl => match us, hl with | [_, _], _ => rfl
theorem f__law_model (T : Tp K mg) : ∃ fd, FunD K "_law_model" "_law_model" (defArgs s__law_model) (defBody s__law_model) (defScope s__law_model) [] [] (He.ga K "_law_model") fd := T.c.def_ 30 (d := d__law_model) rfl
theorem b__law_model {f : Addr} {fd : FuncData} (F : FunD K "_law_model" "_law_model" (defArgs s__law_model) (defBody s__law_model) (defScope s__law_model) [] [] f fd) : Binds K fd ["_law_last"] [] := F.bindsN fun _ _ _ _ _ _ us hl => match us, hl with | [_], _ => rfl
theorem f__law_points (T : Tp K mg) : ∃ fd, FunD K "_law_points" "_law_points" (defArgs s__law_points) (defBody s__law_points) (defScope s__law_points) [] [] (He.ga K "_law_points") fd := T.c.def_ 31 (d := d__law_points) rfl
theorem b__law_points {f : Addr} {fd : FuncData} (F : FunD K "_law_points" "_law_points" (defArgs s__law_points) (defBody s__law_points) (defScope s__law_points) [] [] f fd) : Binds K fd ["_law_m"] [] := F.bindsN fun _ _ _ _ _ _ us hl => match us, hl with | [_], _ => rfl
theorem f__law_web (T : Tp K mg) : ∃ fd, FunD K "_law_web" "_law_web" (defArgs s__law_web) (defBody s__law_web) (defScope s__law_web) [] [] (He.ga K "_law_web") fd := T.c.def_ 32 (d := d__law_web) rfl
theorem b__law_web {f : Addr} {fd : FuncData} (F : FunD K "_law_web" "_law_web" (defArgs s__law_web) (defBody s__law_web) (defScope s__law_web) [] [] f fd) : Binds K fd ["_law_m"] [] := F.bindsN fun _ _ _ _ _ _ us hl => match us, hl with | [_], _ => rfl
theorem f__law_wind (T : Tp K mg) : ∃ fd, FunD K "_law_wind" "_law_wind" (defArgs s__law_wind) (defBody s__law_wind) (defScope s__law_wind) [] [] (He.ga K "_law_wind") fd := T.c.def_ 33 (d := d__law_wind) rfl
theorem b__law_wind {f : Addr} {fd : FuncData} (F : FunD K "_law_wind" "_law_wind" (defArgs s__law_wind) (defBody s__law_wind) (defScope s__law_wind) [] [] f fd) : Binds K fd ["_law_flow_here", "_law_end", "_law_own", "_law_far"] [] := F.bindsN fun _ _ _ _ _ _ us hl => match us, hl with | [_, _, _, _], _ => rfl
theorem f__law_bond (T : Tp K mg) : ∃ fd, FunD K "_law_bond" "_law_bond" (defArgs s__law_bond) (defBody s__law_bond) (defScope s__law_bond) [] [] (He.ga K "_law_bond") fd := T.c.def_ 34 (d := d__law_bond) rfl
theorem b__law_bond {f : Addr} {fd : FuncData} (F : FunD K "_law_bond" "_law_bond" (defArgs s__law_bond) (defBody s__law_bond) (defScope s__law_bond) [] [] f fd) : Binds K fd ["_law_flow_here", "_law_points_here", "_law_far"] [] := F.bindsN fun _ _ _ _ _ _ us hl => match us, hl with | [_, _, _], _ => rfl
theorem f__law_drawn (T : Tp K mg) : ∃ fd, FunD K "_law_drawn" "_law_drawn" (defArgs s__law_drawn) (defBody s__law_drawn) (defScope s__law_drawn) [] [] (He.ga K "_law_drawn") fd := T.c.def_ 35 (d := d__law_drawn) rfl
theorem b__law_drawn {f : Addr} {fd : FuncData} (F : FunD K "_law_drawn" "_law_drawn" (defArgs s__law_drawn) (defBody s__law_drawn) (defScope s__law_drawn) [] [] f fd) : Binds K fd ["_law_flow_here", "_law_own", "_law_winds", "_law_bonds", "_law_far", "_law_last"] [] := F.bindsN fun _ _ _ _ _ _ us hl => match us, hl with | [_, _, _, _, _, _], _ => rfl
theorem f__law_lengths (T : Tp K mg) : ∃ fd, FunD K "_law_lengths" "_law_lengths" (defArgs s__law_lengths) (defBody s__law_lengths) (defScope s__law_lengths) [] [] (He.ga K "_law_lengths") fd := T.c.def_ 36 (d := d__law_lengths) rfl
theorem b__law_lengths {f : Addr} {fd : FuncData} (F : FunD K "_law_lengths" "_law_lengths" (defArgs s__law_lengths) (defBody s__law_lengths) (defScope s__law_lengths) [] [] f fd) : Binds K fd ["_law_winds"] [] := F.bindsN fun _ _ _ _ _ _ us hl => match us, hl with | [_], _ => rfl
theorem f__law_tie_holds (T : Tp K mg) : ∃ fd, FunD K "_law_tie_holds" "_law_tie_holds" (defArgs s__law_tie_holds) (defBody s__law_tie_holds) (defScope s__law_tie_holds) [] [] (He.ga K "_law_tie_holds") fd := T.c.def_ 37 (d := d__law_tie_holds) rfl
theorem b__law_tie_holds {f : Addr} {fd : FuncData} (F : FunD K "_law_tie_holds" "_law_tie_holds" (defArgs s__law_tie_holds) (defBody s__law_tie_holds) (defScope s__law_tie_holds) [] [] f fd) : Binds K fd ["_law_bond_here", "_law_ticks"] [] := F.bindsN fun _ _ _ _ _ _ us hl => match us, hl with | [_, _], _ => rfl
theorem f__law_come (T : Tp K mg) : ∃ fd, FunD K "_law_come" "_law_come" (defArgs s__law_come) (defBody s__law_come) (defScope s__law_come) [] [] (He.ga K "_law_come") fd := T.c.def_ 38 (d := d__law_come) rfl
theorem b__law_come {f : Addr} {fd : FuncData} (F : FunD K "_law_come" "_law_come" (defArgs s__law_come) (defBody s__law_come) (defScope s__law_come) [] [] f fd) : Binds K fd ["_law_m", "_law_ticks", "_law_sizes"] [] := F.bindsN fun _ _ _ _ _ _ us hl => match us, hl with | [_, _, _], _ => rfl
theorem f__law_all_hold (T : Tp K mg) : ∃ fd, FunD K "_law_all_hold" "_law_all_hold" (defArgs s__law_all_hold) (defBody s__law_all_hold) (defScope s__law_all_hold) [] [] (He.ga K "_law_all_hold") fd := T.c.def_ 39 (d := d__law_all_hold) rfl
theorem b__law_all_hold {f : Addr} {fd : FuncData} (F : FunD K "_law_all_hold" "_law_all_hold" (defArgs s__law_all_hold) (defBody s__law_all_hold) (defScope s__law_all_hold) [] [] f fd) : Binds K fd ["_law_m", "_law_ticks", "_law_sizes"] [] := F.bindsN fun _ _ _ _ _ _ us hl => match us, hl with | [_, _, _], _ => rfl
theorem f__law_bounds_hold (T : Tp K mg) : ∃ fd, FunD K "_law_bounds_hold" "_law_bounds_hold" (defArgs s__law_bounds_hold) (defBody s__law_bounds_hold) (defScope s__law_bounds_hold) [] [] (He.ga K "_law_bounds_hold") fd := T.c.def_ 40 (d := d__law_bounds_hold) rfl
theorem b__law_bounds_hold {f : Addr} {fd : FuncData} (F : FunD K "_law_bounds_hold" "_law_bounds_hold" (defArgs s__law_bounds_hold) (defBody s__law_bounds_hold) (defScope s__law_bounds_hold) [] [] f fd) : Binds K fd ["_law_rows", "_law_ticks"] [] := F.bindsN fun _ _ _ _ _ _ us hl => match us, hl with | [_, _], _ => rfl
theorem f_law (T : Tp K mg) : ∃ fd, FunD K "law" "law" (defArgs s_law) (defBody s_law) (defScope s_law) [] [] (He.ga K "law") fd := T.c.def_ 41 (d := d_law) rfl
theorem b_law {f : Addr} {fd : FuncData} (F : FunD K "law" "law" (defArgs s_law) (defBody s_law) (defScope s_law) [] [] f fd) : Binds K fd ["_law_script"] [] := F.bindsN fun _ _ _ _ _ _ us hl => match us, hl with | [_], _ => rfl
end
/-! the head -/
def loose0 : List PySem.Str := ["_wall", "__name__", "LETTERS", "LONGEST_NAME", "is_number", "is_whole", "is_one_of", "is_name", "TideError", "BadBy", "BadName", "Taken", "Full", "BadLength", "BadLate", "BadTie", "Missing", "NoMoment", "NoPoint", "BY", "START", "MOST_BY", "MOST_MOMENTS", "MOST_SPANS", "MOST_TIES", "MOST_LENGTH", "MOST_LATE", "MOST_BOUND", "Web", "woven"]
def loose1 : List PySem.Str := ["is_begin", "are_lengths", "is_lateness", "are_bounds", "need_free_name", "need_point", "offset", "bounds", "tie_bounds", "heard_spans", "_law_flow", "_law_draw", "_law_pick", "_law_names", "_law_model", "_law_points", "_law_web", "_law_wind", "_law_bond", "_law_drawn", "_law_lengths", "_law_tie_holds", "_law_come", "_law_all_hold", "_law_bounds_hold"]
def loose : List PySem.Str := loose0 ++ loose1
abbrev R : PySem.W.OpenRow := PySem.W.OpenLaw.row PySem.Challenge.rw_tidewaiter_k09_whole_bounds_are_the_ties
abbrev hk : PySem.W.Hook := He.hookD 5 fa fn
def ob (s : PySem.W.SharedT) : He.AlD := He.obsDG 5 fa fn (HandSHeadRun.getT s)
theorem ob_eq (s : PySem.W.SharedT) : ob s = hk.obs s.abs := He.obsDG_eq (HandSHeadRun.getT_eq s)
abbrev lawAt : Nat := 59
end Tw

set_option maxHeartbeats 0
namespace Tw
open PySem PySem.Spec PyProof.Rows L2
theorem run (w : World) : HandSHeadRun.RunEq R (PySem.W.view R.prog [lawAt]) hk ob 8000 loose w := by
  intro os
  kernel_rfl
end Tw

set_option maxHeartbeats 4000000
namespace Tw
open PySem PySem.Spec PyProof.Rows L2
theorem flat_strs (l : List Str) : (l.map V.str).all flatV = true := by
  rw [List.all_map]
  exact List.all_eq_true.mpr fun _ _ => rfl
theorem in_strs (z : Str) (l : List Str) : inV (.str z) (l.map V.str) = decide (z ∈ l) := by
  unfold inV
  rw [List.any_map]
  induction l with
  | nil => rfl
  | cons a r ih =>
    rw [List.any_cons, ih]
    have e : ((fun y => eqV y (.str z)) ∘ V.str) a = decide (z = a) := by
      show (a == z) = decide (z = a)
      by_cases h : z = a
      · subst h
        simp
      · rw [decide_eq_false h]
        exact beq_eq_false_iff_ne.mpr fun q => h q.symm
    rw [e]
    simp only [List.mem_cons]
    by_cases h : z = a <;> simp [h]
section
variable {P : Program} {w : World} {K : PySem.W.Frag} {mg : Str → Option Value} {base : Heap}
/-! ### is_number, is_whole, is_one_of -/
/-- None, a truth, an int or a text: its kind -/
def plK : V → Option String
  | .non => some "NoneType"
  | .bl _ => some "bool"
  | .int _ => some "int"
  | .str _ => some "str"
  | _ => none
theorem plK_ty {H : Hp} {v : V} {a : String} (h : plK v = some a) : TyX K H v (.type a) ∧ a ∈ kinds := by
  cases v with
  | non => cases h; exact ⟨.base .non, by decide⟩
  | bl b => cases h; exact ⟨.base (.bl _), by decide⟩
  | int i => cases h; exact ⟨.base (.int _), by decide⟩
  | str z => cases h; exact ⟨.base (.str _), by decide⟩
  | byt b => cases h
  | flt b => cases h
  | ref b => cases h
  | ty b => cases h
def numB (a : String) : Bool := kitT a "int" && !kitT a "bool"
def sp_is_number : Sp := fun vs H Q _ => ∃ (v : V) (a : String), vs = [v] ∧ plK v = some a ∧ Q (.bl (numB a)) H
theorem cal_is_number (T : Tp K mg) : Cal P w K mg base 1 "is_number" sp_is_number := by
  obtain ⟨fd, F⟩ := f_is_number T
  refine cal_of F (g_is_number T) (b_is_number F) sc_is_number (fun vs H Q E h => ?_) (fun cdv A outer s H vs Q E hr h => ?_)
  · obtain ⟨v, a, rfl, _⟩ := h
    rfl
  · obtain ⟨v, a, rfl, hk, q⟩ := h
    obtain ⟨ty, ha⟩ := plK_ty (K := K) (H := H) hk
    refine ⟨_, (pss_one (ps_ret (pe_and (pe_callB call_isK (by rfl) (z_isinstance T) bb_isinstance (pa_cons (pv 0) (pa_cons (pe_bltn (v := .ty "int") (by rfl) (z_int T) bb_int rfl) pa_nil))) (pe_one (pe_not (pe_callB call_isK (by rfl) (z_isinstance T) bb_isinstance (pa_cons (pv 0) (pa_cons (pe_bltn (v := .ty "bool") (by rfl) (z_bool T) bb_bool rfl) pa_nil)))))))), ?_⟩
    refine ⟨_, rfl, _, "int", a, rfl, ty, ha, by decide, _, rfl, ?_⟩
    unfold numB at q
    cases e : kitT a "int" with
    | true =>
      rw [e] at q
      exact iteT ⟨_, rfl, _, "bool", a, rfl, ty, ha, by decide, _, rfl, q⟩
    | false =>
      rw [e] at q
      exact iteF q
def sp_is_whole : Sp := fun vs H Q _ => ∃ (i lo hi : Int), vs = [.int i, .int lo, .int hi] ∧ Q (.bl (decide (lo ≤ i ∧ i ≤ hi))) H
theorem cal_is_whole (T : Tp K mg) : Cal P w K mg base 2 "is_whole" sp_is_whole := by
  obtain ⟨fd, F⟩ := f_is_whole T
  refine cal_of F (g_is_whole T) (b_is_whole F) sc_is_whole (fun vs H Q E h => ?_) (fun cdv A outer s H vs Q E hr h => ?_)
  · obtain ⟨i, lo, hi, rfl, _⟩ := h
    rfl
  · obtain ⟨i, lo, hi, rfl, q⟩ := h
    refine ⟨_, (pss_one (ps_ret (pe_and (C8.pe_c (cal_is_number T) hr (by decide) rfl (pa_cons (pv 0) pa_nil)) (pe_one (pe_chain op_le op_le (pv 1) (pv 0) (pv 2)))))), ?_⟩
    refine ⟨_, rfl, .int i, "int", rfl, rfl, _, rfl, ?_⟩
    refine iteT ⟨_, rfl, _, rfl, _, _, rfl, rfl, _, rfl, ite2 (fun e => ?_) (fun e => ?_)⟩
    · have e1 : lo ≤ i := of_decide_eq_true e
      refine ⟨_, rfl, _, _, rfl, rfl, ?_⟩
      have e2 : decide (lo ≤ i ∧ i ≤ hi) = decide (i ≤ hi) := by simp [e1]
      rw [e2] at q
      exact q
    · have e1 : ¬ lo ≤ i := fun z => e (decide_eq_true z)
      have e2 : decide (lo ≤ i ∧ i ≤ hi) = false := by simp [e1]
      rw [e2] at q
      exact q
/-- is_whole of any plain value -/
def whB (lo hi : Int) : V → Bool
  | .int i => decide (lo ≤ i ∧ i ≤ hi)
  | _ => false
def sp_iswh : Sp := fun vs H Q _ => ∃ (v : V) (lo hi : Int), vs = [v, .int lo, .int hi] ∧ (plK v).isSome = true ∧ Q (.bl (whB lo hi v)) H
theorem cal_iswh (T : Tp K mg) : Cal P w K mg base 2 "is_whole" sp_iswh := by
  obtain ⟨fd, F⟩ := f_is_whole T
  refine cal_of F (g_is_whole T) (b_is_whole F) sc_is_whole (fun vs H Q E h => ?_) (fun cdv A outer s H vs Q E hr h => ?_)
  · obtain ⟨v, lo, hi, rfl, _⟩ := h
    rfl
  · obtain ⟨v, lo, hi, rfl, hk, q⟩ := h
    refine ⟨_, (pss_one (ps_ret (pe_and (C8.pe_c (cal_is_number T) hr (by decide) rfl (pa_cons (pv 0) pa_nil)) (pe_one (pe_chain op_le op_le (pv 1) (pv 0) (pv 2)))))), ?_⟩
    cases v with
    | non => exact ⟨_, rfl, .non, "NoneType", rfl, rfl, _, rfl, iteF q⟩
    | bl b => exact ⟨_, rfl, .bl b, "bool", rfl, rfl, _, rfl, iteF q⟩
    | str z => exact ⟨_, rfl, .str z, "str", rfl, rfl, _, rfl, iteF q⟩
    | byt b => cases hk
    | flt b => cases hk
    | ref b => cases hk
    | ty b => cases hk
    | int i =>
      refine ⟨_, rfl, .int i, "int", rfl, rfl, _, rfl, ?_⟩
      refine iteT ⟨_, rfl, _, rfl, _, _, rfl, rfl, _, rfl, ite2 (fun e => ?_) (fun e => ?_)⟩
      · have e1 : lo ≤ i := of_decide_eq_true e
        refine ⟨_, rfl, _, _, rfl, rfl, ?_⟩
        have e2 : decide (lo ≤ i ∧ i ≤ hi) = decide (i ≤ hi) := by simp [e1]
        have q : Q (.bl (decide (lo ≤ i ∧ i ≤ hi))) H := q
        rw [e2] at q
        exact q
      · have e1 : ¬ lo ≤ i := fun z => e (decide_eq_true z)
        have e2 : decide (lo ≤ i ∧ i ≤ hi) = false := by simp [e1]
        have q : Q (.bl (decide (lo ≤ i ∧ i ≤ hi))) H := q
        rw [e2] at q
        exact q
def sp_is_one_of : Sp := fun vs H Q _ => ∃ (z : Str) (p : Addr) (l : List Str), vs = [.str z, .ref p] ∧ H p = some (.lst (l.map V.str)) ∧ Q (.bl (decide (z ∈ l))) H
theorem cal_is_one_of (T : Tp K mg) : Cal P w K mg base 1 "is_one_of" sp_is_one_of := by
  obtain ⟨fd, F⟩ := f_is_one_of T
  refine cal_of F (g_is_one_of T) (b_is_one_of F) sc_is_one_of (fun vs H Q E h => ?_) (fun cdv A outer s H vs Q E hr h => ?_)
  · obtain ⟨z, p, l, rfl, _⟩ := h
    rfl
  · obtain ⟨z, p, l, rfl, hp, q⟩ := h
    refine ⟨_, (pss_one (ps_ret (pe_and (pe_callB call_isK (by rfl) (z_isinstance T) bb_isinstance (pa_cons (pv 0) (pa_cons (pe_bltn (v := .ty "str") (by rfl) (z_str T) bb_str rfl) pa_nil))) (pe_one (pe_cmpR op_in_seq (pv 0) (pv 1) (by rfl)))))), ?_⟩
    refine ⟨_, rfl, _, "str", "str", rfl, .base (.str _), by decide, by decide, _, rfl, iteT ⟨_, rfl, _, rfl, p, _, rfl, .inl (.inl (.inl hp)), rfl, flat_strs _, ?_⟩⟩
    show Q (.bl (inV (.str z) (l.map V.str))) _
    rw [in_strs]
    exact q
/-! ### is_name -/
def sp_is_name : Sp := fun vs H Q _ => ∃ z : Str, vs = [.str z] ∧ Nm z ∧ ∀ H', Same H H' → Q (.bl true) H'
theorem cal_is_name (T : Tp K mg) : Cal P w K mg base 2 "is_name" sp_is_name := by
  obtain ⟨fd, F⟩ := f_is_name T
  refine cal_of F (g_is_name T) (b_is_name F) sc_is_name (fun vs H Q E h => ?_) (fun cdv A outer s H vs Q E hr h => ?_)
  · obtain ⟨z, rfl, _⟩ := h
    rfl
  · obtain ⟨z, rfl, ⟨n1, n2, n3⟩, q⟩ := h
    refine ⟨_, (pss_cons (ps_if (PW.pt (pw_or (pt_not (pt_val (pe_callB call_isK (by rfl) (z_isinstance T) bb_isinstance (pa_cons (pv 0) (pa_cons (pe_bltn (v := .ty "str") (by rfl) (z_str T) bb_str rfl) pa_nil))))) (pw_or1 (pt_not (pt_chain op_le op_le pe_int (pe_callB call_len_str (by rfl) (z_len T) bb_len (pa_cons (pv 0) pa_nil)) (C8.pe_gc (by rfl) (c_LONGEST_NAME T))))))) (pss_one (ps_ret pe_bl)) pss_nil)
      (pss_one (ps_ret (pe_callB (cr_all rfl) (by rfl) (z_all T) bb_all (pa_cons (pe_lc (own := [("letter", 1)]) (g := gName 1) (tt := tYes) rfl sc_is_name.nd (pi_str (pv 0)) (blkOk_by (N := N_is_name) (sc := defScope s_is_name) (by decide +kernel)) (fun _ _ _ _ _ => (pg_name (i := 1) sc_is_name.nd rfl (.inl rfl))) (fun _ _ _ _ _ => pts_nil) (fun _ _ _ _ _ => (pe_cmpR op_in_sign (pv 1) (C8.pe_gc (by rfl) (c_LETTERS T)) (by rfl)))) pa_nil))))), ?_⟩
    refine ⟨_, rfl, _, "str", "str", rfl, .base (.str _), by decide, by decide, _, rfl, ?_⟩
    refine iteF ⟨_, rfl, _, rfl, Nat.le_trans n2 (by decide), _, _, rfl, rfl, _, rfl, ?_⟩
    have e1 : decide ((1 : Int) ≤ (z.length : Int)) = true := decide_eq_true (by omega)
    rw [e1]
    refine iteT ⟨_, _, rfl, rfl, _, rfl, ?_⟩
    have e2 : decide ((z.length : Int) ≤ 8) = true := decide_eq_true (by omega)
    rw [e2]
    refine iteF ?_
    refine ⟨_, rfl, _, rfl, fun D nD => ?_⟩
    refine lc_it walk_str (fun i H1 => Same H H1 ∧ H1 D = some (.lst ((List.replicate i true).map V.bl))) ⟨same_upd nD, upd_same⟩ (fun _ _ _ _ => trivial) ?_ ?_
    · rintro i x H1 H2 hi ⟨s1, d1⟩ ⟨rfl, c, hc, rfl⟩
      refine ⟨rfl, yes_i (iteT ⟨_, rfl, c, letters, rfl, rfl, ?_⟩)⟩
      have hcm : c ∈ z.cps.toList := by
        obtain ⟨hi', hc'⟩ := Array.getElem?_eq_some_iff.mp hc
        rw [← hc']
        exact Array.mem_toList_iff.mpr (Array.getElem_mem hi')
      refine ⟨_, d1, ?_, ?_, ?_⟩
      · rw [List.length_map, List.length_replicate]
        have : z.cps.size = z.length := rfl
        exact small1000 (by omega)
      · exact fun b o e => by
          rw [upd_ne (ne_of_none e nD)]
          exact s1 b o e
      · rw [upd_same, decide_eq_true (n3 c hcm), List.replicate_succ', List.map_append]
        rfl
    · rintro H1 ⟨s1, d1⟩
      refine ⟨D, List.replicate z.cps.size true, rfl, .inl (.inl d1), ?_⟩
      rw [show (List.replicate z.cps.size true).all id = true by simp]
      exact q H1 s1
end
end Tw

set_option maxHeartbeats 4000000
namespace Tw
open PySem PySem.Spec PyProof.Rows L2
/-! ### attributes stored -/
theorem ne_mb : ¬ (("by" : Str) = "moment_rows") := by decide +kernel
theorem ne_sb : ¬ (("by" : Str) = "span_rows") := by decide +kernel
theorem ne_tb : ¬ (("by" : Str) = "tie_rows") := by decide +kernel
theorem ne_sm : ¬ (("moment_rows" : Str) = "span_rows") := by decide +kernel
theorem ne_tm : ¬ (("moment_rows" : Str) = "tie_rows") := by decide +kernel
theorem ne_ts : ¬ (("span_rows" : Str) = "tie_rows") := by decide +kernel
theorem pf0 {v : V} : putF "by" v ([] : List (Str × V)) = ([("by", v)] : List (Str × V)) := rfl
theorem pf1 {v x : V} : putF "moment_rows" v ([("by", x)] : List (Str × V)) = ([("by", x), ("moment_rows", v)] : List (Str × V)) := by
  simp only [putF, if_neg ne_mb]
theorem pf2 {v x y : V} : putF "span_rows" v ([("by", x), ("moment_rows", y)] : List (Str × V)) = ([("by", x), ("moment_rows", y), ("span_rows", v)] : List (Str × V)) := by
  simp only [putF, if_neg ne_sb, if_neg ne_sm]
theorem pf3 {v x y z : V} : putF "tie_rows" v ([("by", x), ("moment_rows", y), ("span_rows", z)] : List (Str × V)) = ([("by", x), ("moment_rows", y), ("span_rows", z), ("tie_rows", v)] : List (Str × V)) := by
  simp only [putF, if_neg ne_tb, if_neg ne_tm, if_neg ne_ts]
theorem wf_pm {l : Int} {a b c d : Addr} : putF "moment_rows" (.ref d) (wf l a b c) = wf l d b c := by
  unfold wf
  simp only [putF, if_neg ne_mb, if_true]
theorem wf_ps {l : Int} {a b c d : Addr} : putF "span_rows" (.ref d) (wf l a b c) = wf l a d c := by
  unfold wf
  simp only [putF, if_neg ne_sb, if_neg ne_sm, if_true]
theorem wf_pt {l : Int} {a b c d : Addr} : putF "tie_rows" (.ref d) (wf l a b c) = wf l a b d := by
  unfold wf
  simp only [putF, if_neg ne_tb, if_neg ne_tm, if_neg ne_ts, if_true]
theorem up_eq {H : Hp} {p : Addr} {o u : HO} (h : o = u) : (upd H p o) p = some u := by
  rw [upd_same, h]
section
variable {P : Program} {w : World} {K : PySem.W.Frag} {mg : Str → Option Value} {base : Heap}
abbrev CW (K : PySem.W.Frag) : Addr := He.ga K "Web"
/-! ### Web.__init__ -/
def sp_init (K : PySem.W.Frag) : Sp := fun vs H Q _ => ∃ (p dx : Addr) (l : Int), vs = [.ref p, .int l] ∧ H p = some (.ins (CW K) dx []) ∧ 1 ≤ l ∧ l ≤ 1000 ∧
  ∀ (a b c : Addr) (H' : Hp), (∀ x o, H x = some o → x ≠ p → H' x = some o) → H' p = some (.ins (CW K) dx (wf l a b c)) → H' a = some (.tup []) → H' b = some (.tup []) → H' c = some (.tup []) → Q .non H'
theorem fn_init (T : Tp K mg) {fd : FuncData} (F : FunD K "__init__" "Web.__init__" (defArgs s_Web_UinitU) (defBody s_Web_UinitU) (defScope s_Web_UinitU) [(V.int 100 : V)] [] (He.ma K (He.ga K "Web") "__init__") fd) :
    FnOk P w K mg base CX0 3 (He.ma K (He.ga K "Web") "__init__") fd ["self", "by"] (sp_init K) := by
  refine fnok_of F sc_Web_UinitU (fun vs H Q E h => ?_) (fun cdv A outer s H vs Q E hr h => ?_)
  · obtain ⟨p, dx, l, rfl, _⟩ := h
    rfl
  · obtain ⟨p, dx, l, rfl, hp, l1, l2, q⟩ := h
    refine ⟨_, (pss_cons (ps_if (pt_not (pt_val (C8.pe_c (cal_is_whole T) hr (by decide) rfl (pa_cons (pv 1) (pa_cons pe_int (pa_cons (C8.pe_gc (by rfl) (c_MOST_BY T)) pa_nil)))))) (pss_one ps_never) pss_nil)
      (pss_cons (ps_fld (pv 0) (pv 1) rfl)
      (pss_cons (ps_fld (pv 0) (pe_tup pa_nil) rfl)
      (pss_cons (ps_fld (pv 0) (pe_tup pa_nil) rfl)
      (pss_one (ps_fld (pv 0) (pe_tup pa_nil) rfl)))))), ?_⟩
    refine ⟨_, rfl, l, 1, 1000, rfl, _, rfl, ?_⟩
    rw [decide_eq_true (show (1 : Int) ≤ l ∧ l ≤ 1000 from ⟨l1, l2⟩)]
    refine iteF ?_
    -- self.by = by
    refine ⟨_, rfl, _, rfl, p, CW K, dx, [], rfl, hp, cl_Web T, na_by T, (by show 0 < 1000; decide), ?_⟩
    -- the three rows
    refine ⟨Nat.zero_le _, fun a na => ?_⟩
    have npa : p ≠ a := fun e => by
      rw [← e, upd_same] at na
      cases na
    refine ⟨_, rfl, p, CW K, dx, _, rfl, (by rw [upd_ne npa]; exact up_eq rfl), cl_Web T, na_moment_rows T, (by show 1 < 1000; decide), ?_⟩
    refine ⟨Nat.zero_le _, fun b nb => ?_⟩
    have npb : p ≠ b := fun e => by
      rw [← e, upd_same] at nb
      cases nb
    have nab : a ≠ b := fun e => by
      rw [← e, upd_ne npa.symm, upd_same] at nb
      cases nb
    refine ⟨_, rfl, p, CW K, dx, _, rfl, (by rw [upd_ne npb]; exact up_eq rfl), cl_Web T, na_span_rows T, (by rw [pf0, pf1]; show 2 < 1000; decide), ?_⟩
    refine ⟨Nat.zero_le _, fun c nc => ?_⟩
    have npc : p ≠ c := fun e => by
      rw [← e, upd_same] at nc
      cases nc
    have nbc : b ≠ c := fun e => by
      rw [← e, upd_ne npb.symm, upd_same] at nc
      cases nc
    have nac : a ≠ c := fun e => by
      rw [← e, upd_ne npa.symm, upd_ne nab, upd_ne npa.symm, upd_same] at nc
      cases nc
    refine ⟨_, rfl, p, CW K, dx, _, rfl, (by rw [upd_ne npc]; exact up_eq rfl), cl_Web T, na_tie_rows T, (by rw [pf0, pf1, pf2]; show 3 < 1000; decide), ?_⟩
    refine q a b c _ (fun x o e hx => ?_) (up_eq (by rw [pf0, pf1, pf2, pf3]; rfl)) ?_ ?_ ?_
    · have ea : (upd H p (.ins (CW K) dx (putF "by" (.int l) []))) x = some o := by
        rw [upd_ne hx]
        exact e
      have nxa : x ≠ a := ne_of_none ea na
      have eb : (upd (upd (upd H p (.ins (CW K) dx (putF "by" (.int l) []))) a (.tup [])) p (.ins (CW K) dx (putF "moment_rows" (.ref a) (putF "by" (.int l) [])))) x = some o := by
        rw [upd_ne hx, upd_ne nxa]
        exact ea
      have nxb : x ≠ b := ne_of_none eb nb
      have nxc : x ≠ c := ne_of_none (by rw [upd_ne hx, upd_ne nxb]; exact eb) nc
      rw [upd_ne hx, upd_ne nxc, upd_ne hx, upd_ne nxb]
      exact eb
    · rw [upd_ne npa.symm, upd_ne nac, upd_ne npa.symm, upd_ne nab, upd_ne npa.symm, upd_same]
    · rw [upd_ne npb.symm, upd_ne nbc, upd_ne npb.symm, upd_same]
    · rw [upd_ne npc.symm, upd_same]
theorem mak_Web (T : Tp K mg) : Mak P w K mg base 3 "Web" (CW K) (sp_init K) [] := by
  obtain ⟨fd, F⟩ := f_Web_UinitU T
  obtain ⟨ds, hv, hb⟩ := F.binds1 (ps := ["self", "by"]) 2 1 (by simp) rfl fun T kV doc pm an cdv ct us its h1 h2 => match us, its, h1, h2 with
    | [_, _], [_], _, _ => ⟨_, rfl, rfl⟩
  exact ⟨_, fd, ["self", "by"], ds, mk_Web T, fn_init T F, g_Web T, hb, hv⟩
theorem mak0_Web (T : Tp K mg) : Mak P w K mg base 3 "Web" (CW K) (sp_init K) [.int 100] := by
  obtain ⟨fd, F⟩ := f_Web_UinitU T
  obtain ⟨ds, hv, hb⟩ := F.binds1 (ps := ["self", "by"]) 1 0 (by simp) rfl fun T kV doc pm an cdv ct us its h1 h2 => match us, its, h1, h2 with
    | [_], [_], _, _ => ⟨_, rfl, rfl⟩
  exact ⟨_, fd, ["self", "by"], ds, mk_Web T, fn_init T F, g_Web T, hb, hv⟩
end
end Tw

set_option maxHeartbeats 4000000
namespace Tw
open PySem PySem.Spec PyProof.Rows L2
theorem Same.upd' {H H1 : Hp} {p : Addr} {o : HO} (s : Same H H1) (h : H1 p = none) : Same H (upd H1 p o) := s.trans (same_upd h)
/-- a new list is written again: what was ahead of it stays -/
theorem same_put {H H1 : Hp} {D : Addr} {o : HO} (s : Same H H1) (nD : H D = none) : Same H (upd H1 D o) := fun b x e => by
  rw [upd_ne (ne_of_none e nD)]
  exact s b x e
section
variable {P : Program} {w : World} {K : PySem.W.Frag} {mg : Str → Option Value} {base : Heap}
/-! ### woven -/
def sp_woven (K : PySem.W.Frag) : Sp := fun vs H Q _ => ∃ (m : Md) (a b c : Addr) (ws bs : List V), vs = [.int m.last, .ref a, .ref b, .ref c] ∧ H a = some (.tup (m.own.map V.str)) ∧ H b = some (.tup ws) ∧ Rows H ws (m.wd.map Wd.row) ∧ H c = some (.tup bs) ∧ Rows H bs (m.bd.map Bd.row) ∧
  (m.own.length ≤ 10 ∧ m.wd.length ≤ 4 ∧ m.bd.length ≤ 40) ∧ (1 ≤ m.last ∧ m.last ≤ 1000) ∧ ∀ (p : Addr) (H' : Hp), Same H H' → H p = none → WebAt (CW K) H' p m → Q (.ref p) H'
theorem cal_woven (T : Tp K mg) : Cal P w K mg base 5 "woven" (sp_woven K) := by
  obtain ⟨fd, F⟩ := f_woven T
  refine cal_of F (g_woven T) (b_woven F) sc_woven (fun vs H Q E h => ?_) (fun cdv A outer s H vs Q E hr h => ?_)
  · obtain ⟨m, a, b, c, ws, bs, rfl, _⟩ := h
    rfl
  · obtain ⟨m, a, b, c, ws, bs, rfl, ha, hb, rb, hc, rc, hl, hla, q⟩ := h
    refine ⟨_, (pss_cons (ps_set (i := 4) sc_woven.nd rfl (.inl rfl) (C8.pe_mk (mak_Web T) hr (by decide) rfl (pa_cons (pv 0) pa_nil)))
      (pss_cons (ps_fld (pv 4) (pe_callTy call_tuple_of (by rfl) (z_tuple T) bb_tuple (pa_cons (pv 1) pa_nil)) rfl)
      (pss_cons (ps_fld (pv 4) (pe_callTy call_tuple_of (by rfl) (z_tuple T) bb_tuple (pa_cons (pv 2) pa_nil)) rfl)
      (pss_cons (ps_fld (pv 4) (pe_callTy call_tuple_of (by rfl) (z_tuple T) bb_tuple (pa_cons (pv 3) pa_nil)) rfl)
      (pss_one (ps_ret (pv 4))))))), ?_⟩
    refine ⟨_, rfl, fun x dx nx ndx ne => ⟨x, dx, m.last, rfl, upd_same, hla.1, hla.2, fun a0 b0 c0 H1 kp hp ha0 hb0 hc0 => ⟨rfl, ?_⟩⟩⟩
    have s1 : Same H H1 := Same.made nx ndx kp
    have nax : a ≠ x := ne_of_none ha nx
    have nbx : b ≠ x := ne_of_none hb nx
    have ncx : c ≠ x := ne_of_none hc nx
    refine ⟨_, rfl, a, _, rfl, .inr ⟨.inl (.inl (s1 _ _ ha)), _, rfl, x, CW K, dx, _, rfl, hp, cl_Web T, na_moment_rows T, (by show 4 < 1000; decide), ?_⟩⟩
    refine ⟨_, rfl, b, _, rfl, .inr ⟨.inl (.inl (by rw [upd_ne nbx]; exact s1 _ _ hb)), _, rfl, x, CW K, dx, _, rfl, up_eq (by rw [wf_pm]), cl_Web T, na_span_rows T, (by show 4 < 1000; decide), ?_⟩⟩
    refine ⟨_, rfl, c, _, rfl, .inr ⟨.inl (.inl (by rw [upd_ne ncx, upd_ne ncx]; exact s1 _ _ hc)), _, rfl, x, CW K, dx, _, rfl, up_eq (by rw [wf_ps]), cl_Web T, na_tie_rows T, (by show 4 < 1000; decide), ?_⟩⟩
    have s2 : Same H (upd (upd (upd H1 x (.ins (CW K) dx (putF "moment_rows" (.ref a) (wf m.last a0 b0 c0)))) x (.ins (CW K) dx (putF "span_rows" (.ref b) (wf m.last a b0 c0)))) x (.ins (CW K) dx (putF "tie_rows" (.ref c) (wf m.last a b c0)))) := fun y o e => by
      have ny : y ≠ x := ne_of_none e nx
      rw [upd_ne ny, upd_ne ny, upd_ne ny]
      exact s1 _ _ e
    refine ⟨_, rfl, q x _ s2 nx ⟨⟨dx, a, b, c, ws, bs, up_eq (by rw [wf_pt]), s2 _ _ ha, s2 _ _ hb, rb.keep (Kt.of s2), s2 _ _ hc, rc.keep (Kt.of s2)⟩, hl, hla⟩⟩
/-! ### moments, spans, ties -/
def sp_moments (K : PySem.W.Frag) : Sp := fun vs H Q _ => ∃ (p : Addr) (m : Md), vs = [.ref p] ∧ WebAt (CW K) H p m ∧ ∀ q, H q = none → Q (.ref q) (upd H q (.lst (m.own.map V.str)))
theorem met_Web_moments (T : Tp K mg) : Met P w K mg base 2 (CW K) "moments" (sp_moments K) := by
  obtain ⟨fd, F⟩ := f_Web_moments T
  refine met_of F (cl_Web T) (me_Web_moments T) (b_Web_moments F) sc_Web_moments (fun vs H Q E h => ?_) (fun cdv A outer s H vs Q E hr h => ?_)
  · obtain ⟨p, m, rfl, _⟩ := h
    rfl
  · obtain ⟨p, m, rfl, W, q⟩ := h
    obtain ⟨dx, a, b, c, ws, bs, h1, h2, h3, h4, h5, h6⟩ := W.ex
    refine ⟨_, (pss_one (ps_ret (pe_callTy call_list_of (by rfl) (z_list T) bb_list (pa_cons (pe_fld (pv 0) rfl) pa_nil)))), ?_⟩
    exact ⟨_, rfl, p, CW K, dx, _, _, rfl, h1, cl_Web T, na_moment_rows T, wf_m, a, _, rfl, .inr (.inl (.inl h2)), q⟩
def sp_spans (K : PySem.W.Frag) : Sp := fun vs H Q _ => ∃ (p : Addr) (m : Md), vs = [.ref p] ∧ WebAt (CW K) H p m ∧ ∀ ws q, Rows H ws (m.wd.map Wd.row) → H q = none → Q (.ref q) (upd H q (.lst ws))
theorem met_Web_spans (T : Tp K mg) : Met P w K mg base 2 (CW K) "spans" (sp_spans K) := by
  obtain ⟨fd, F⟩ := f_Web_spans T
  refine met_of F (cl_Web T) (me_Web_spans T) (b_Web_spans F) sc_Web_spans (fun vs H Q E h => ?_) (fun cdv A outer s H vs Q E hr h => ?_)
  · obtain ⟨p, m, rfl, _⟩ := h
    rfl
  · obtain ⟨p, m, rfl, W, q⟩ := h
    obtain ⟨dx, a, b, c, ws, bs, h1, h2, h3, h4, h5, h6⟩ := W.ex
    refine ⟨_, (pss_one (ps_ret (pe_callTy call_list_of (by rfl) (z_list T) bb_list (pa_cons (pe_fld (pv 0) rfl) pa_nil)))), ?_⟩
    exact ⟨_, rfl, p, CW K, dx, _, _, rfl, h1, cl_Web T, na_span_rows T, wf_s, b, _, rfl, .inr (.inl (.inl h3)), fun l => q ws l h4⟩
def sp_ties (K : PySem.W.Frag) : Sp := fun vs H Q _ => ∃ (p : Addr) (m : Md), vs = [.ref p] ∧ WebAt (CW K) H p m ∧ ∀ bs q, Rows H bs (m.bd.map Bd.row) → H q = none → Q (.ref q) (upd H q (.lst bs))
theorem met_Web_ties (T : Tp K mg) : Met P w K mg base 2 (CW K) "ties" (sp_ties K) := by
  obtain ⟨fd, F⟩ := f_Web_ties T
  refine met_of F (cl_Web T) (me_Web_ties T) (b_Web_ties F) sc_Web_ties (fun vs H Q E h => ?_) (fun cdv A outer s H vs Q E hr h => ?_)
  · obtain ⟨p, m, rfl, _⟩ := h
    rfl
  · obtain ⟨p, m, rfl, W, q⟩ := h
    obtain ⟨dx, a, b, c, ws, bs, h1, h2, h3, h4, h5, h6⟩ := W.ex
    refine ⟨_, (pss_one (ps_ret (pe_callTy call_list_of (by rfl) (z_list T) bb_list (pa_cons (pe_fld (pv 0) rfl) pa_nil)))), ?_⟩
    exact ⟨_, rfl, p, CW K, dx, _, _, rfl, h1, cl_Web T, na_tie_rows T, wf_t, c, _, rfl, .inr (.inl (.inl h5)), fun l => q bs l h6⟩
/-! ### points -/
def sp_points (K : PySem.W.Frag) : Sp := fun vs H Q _ => ∃ (p : Addr) (m : Md), vs = [.ref p] ∧ WebAt (CW K) H p m ∧ ∀ q H', Same H H' → H q = none → H' q = some (.lst (m.pts.map V.str)) → Q (.ref q) H'
theorem met_Web_points (T : Tp K mg) : Met P w K mg base 3 (CW K) "points" (sp_points K) := by
  obtain ⟨fd, F⟩ := f_Web_points T
  refine met_of F (cl_Web T) (me_Web_points T) (b_Web_points F) sc_Web_points (fun vs H Q E h => ?_) (fun cdv A outer s H vs Q E hr h => ?_)
  · obtain ⟨p, m, rfl, _⟩ := h
    rfl
  · obtain ⟨p, m, rfl, W, q⟩ := h
    obtain ⟨dx, a, b, c, ws, bs, h1, h2, h3, h4, h5, h6⟩ := W.ex
    have hl := W.len
    have hw : ws.length = m.wd.length := by
      rw [h4.len, List.length_map]
    refine ⟨_, (pss_cons (ps_setLc (i := 1) (own := [("span", 2)]) (g := gName 2) (tt := tYes) rfl sc_Web_points.nd rfl rfl (sw_true rfl rfl rfl (by decide +kernel)) (pi_tup (pe_fld (pv 0) rfl)) (blkOk_by (N := N_Web_points) (sc := defScope s_Web_points) (by decide +kernel)) (fun _ _ _ _ _ => (pg_name (i := 2) sc_Web_points.nd rfl (.inl rfl))) (fun _ _ _ _ _ => pts_nil) (fun _ _ _ _ _ => (pe_ix (ix_tupK (K := K) rfl) (pv 2) pe_int (fun _ _ => rfl))))
      (pss_one (ps_ret (pe_op op_cat (pe_op op_cat (pe_lst (pa_cons (C8.pe_gc (by rfl) (c_START T)) pa_nil)) (C8.pe_mt0 (met_Web_moments T) hr (by decide) (pv 0))) (pv 1))))), ?_⟩
    refine ⟨_, rfl, p, CW K, dx, _, _, rfl, h1, cl_Web T, na_span_rows T, wf_s, b, rfl, ⟨_, .inl (.inl h3)⟩, fun D nD => ?_⟩
    refine lc_tup (K := K) (a := b) (xs := ws) (fun i H1 => Same H H1 ∧ H1 D = some (.lst (((m.wd.map (·.en)).take i).map V.str))) ⟨same_upd nD, upd_same⟩ (fun i H1 _ ⟨s1, _⟩ => .inl (.inl (s1 _ _ h3))) ?_ ?_
    · rintro i x H1 hx ⟨s1, d1⟩
      obtain ⟨t, r, rfl, hr', ht⟩ := h4.at hx
      rw [List.getElem?_map] at hr'
      cases e : m.wd[i]? with
      | none =>
        rw [e] at hr'
        cases hr'
      | some y =>
        rw [e] at hr'
        cases hr'
        have hi : i < m.wd.length := (List.getElem?_eq_some_iff.mp e).1
        refine ⟨rfl, yes_i (iteT ⟨_, rfl, t, _, 0, _, rfl, rfl, .inl (.inl (s1 _ _ ht)), atI_nat (j := 0) rfl, _, d1, ?_, ?_, ?_⟩)⟩
        · rw [List.length_map, List.length_take]
          exact small1000 (by omega)
        · exact same_put s1 nD
        · rw [upd_same, List.take_add_one, List.getElem?_map, e, List.map_append]
          rfl
    · rintro H1 ⟨s1, d1⟩
      have en : (m.wd.map (·.en)).take ws.length = m.wd.map (·.en) := List.take_of_length_le (by rw [List.length_map]; omega)
      rw [en] at d1
      -- [START] + self.moments() + ends
      refine ⟨by show 1 ≤ sizeLine; decide, fun l nl => ?_⟩
      have s2 : Same H1 (upd H1 l (.lst [.str "start"])) := same_upd nl
      have W2 := (W.same s1).same s2
      obtain ⟨dx2, _, _, _, _, _, g1, _⟩ := W2.ex
      refine ⟨_, rfl, p, _, _, rfl, g1, wf_no (by decide +kernel), p, m, rfl, W2, fun k nk => ?_⟩
      have nlk : l ≠ k := fun z => by
        rw [← z, upd_same] at nk
        cases nk
      have s3 := same_upd (o := .lst (m.own.map V.str)) nk
      refine ⟨l, k, _, _, rfl, rfl, (by rw [upd_ne nlk]; exact upd_same), upd_same, ?_, fun r nr => ?_⟩
      · rw [List.length_map]
        exact Nat.le_of_lt (small1000 (by show 1 + _ ≤ 1000; omega))
      · have s4 := same_upd (o := .lst ([.str "start"] ++ m.own.map V.str)) nr
        have nDr : D ≠ r := ne_of_none (s3 _ _ (s2 _ _ d1)) nr
        refine ⟨_, rfl, r, D, _, _, rfl, rfl, upd_same, (s4 _ _ (s3 _ _ (s2 _ _ d1))), ?_, fun u nu => ?_⟩
        · rw [List.length_append, List.length_map, List.length_map, List.length_map]
          exact Nat.le_of_lt (small1000 (by show 1 + _ + _ ≤ 1000; omega))
        · have s5 := same_upd (o := .lst ([.str "start"] ++ m.own.map V.str ++ (m.wd.map (·.en)).map V.str)) nu
          have sa := ((s1.trans s2).trans s3).trans s4
          refine q u _ (sa.trans s5) (sa.free nu) ?_
          rw [upd_same]
          unfold Md.pts
          rw [List.map_cons, List.map_append]
          rfl
end
end Tw

set_option maxHeartbeats 4000000
namespace Tw
open PySem PySem.Spec PyProof.Rows L2
/-- the two bounds of a tie, good -/
structure BOk (bo to : Option Int) : Prop where
  one : ¬ (bo = none ∧ to = none)
  lo : ∀ x, bo = some x → -1000 ≤ x ∧ x ≤ 1000
  hi : ∀ x, to = some x → -1000 ≤ x ∧ x ≤ 1000
  le : ∀ x y, bo = some x → to = some y → x ≤ y
def tls (bo to : Option Int) : List Int := bo.toList ++ to.toList
theorem BOk.sh {bo to : Option Int} (h : BOk bo to) : (∀ x ∈ tls bo to, -1000 ≤ x ∧ x ≤ 1000) ∧ ((∃ u, tls bo to = [u]) ∨ ∃ u v, tls bo to = [u, v] ∧ u ≤ v) := by
  cases bo with
  | none =>
    cases to with
    | none => exact absurd ⟨rfl, rfl⟩ h.one
    | some y =>
      refine ⟨fun x hx => ?_, .inl ⟨y, rfl⟩⟩
      have e : x = y := by simpa [tls] using hx
      rw [e]
      exact h.hi y rfl
  | some x0 =>
    cases to with
    | none =>
      refine ⟨fun x hx => ?_, .inl ⟨x0, rfl⟩⟩
      have e : x = x0 := by simpa [tls] using hx
      rw [e]
      exact h.lo x0 rfl
    | some y =>
      refine ⟨fun x hx => ?_, .inr ⟨x0, y, rfl, h.le x0 y rfl rfl⟩⟩
      have e : x = x0 ∨ x = y := by simpa [tls] using hx
      rcases e with e | e
      · rw [e]
        exact h.lo x0 rfl
      · rw [e]
        exact h.hi y rfl
theorem oV_non {o : Option Int} : decide (oV o = V.non) = o.isNone := by
  cases o <;> simp [oV]
section
variable {P : Program} {w : World} {K : PySem.W.Frag} {mg : Str → Option Value} {base : Heap}
/-! ### are_bounds -/
def sp_are_bounds : Sp := fun vs H Q _ => ∃ bo to : Option Int, vs = [oV bo, oV to] ∧ BOk bo to ∧ ∀ H', Same H H' → Q (.bl true) H'
theorem cal_are_bounds (T : Tp K mg) : Cal P w K mg base 3 "are_bounds" sp_are_bounds := by
  obtain ⟨fd, F⟩ := f_are_bounds T
  refine cal_of F (g_are_bounds T) (b_are_bounds F) sc_are_bounds (fun vs H Q E h => ?_) (fun cdv A outer s H vs Q E hr h => ?_)
  · obtain ⟨bo, to, rfl, _⟩ := h
    rfl
  · obtain ⟨bo, to, rfl, B, q⟩ := h
    obtain ⟨hin, hsh⟩ := B.sh
    refine ⟨_, (pss_cons (ps_setLc (i := 2) (own := [("bound", 3)]) (g := gName 3) rfl sc_are_bounds.nd rfl rfl (sw_true rfl rfl rfl (by decide +kernel)) (pi_tup (pe_tup (pa_cons (pv 0) (pa_cons (pv 1) pa_nil)))) (blkOk_by (N := N_are_bounds) (sc := defScope s_are_bounds) (by decide +kernel)) (fun _ _ _ _ _ => (pg_name (i := 3) sc_are_bounds.nd rfl (.inl rfl))) (fun _ _ _ _ _ => (pts_one (pt_cmpR op_notN (pv 3) pe_non (nomark _)))) (fun _ _ _ _ _ => (pv 3)))
      (pss_cons (ps_if (pt_not (pt_val (pe_callB (cr_all rfl) (by rfl) (z_all T) bb_all (pa_cons (pe_lc (own := [("bound", 3)]) (g := gName 3) (tt := tYes) rfl sc_are_bounds.nd (pi_list (pv 2)) (blkOk_by (N := N_are_bounds) (sc := defScope s_are_bounds) (by decide +kernel)) (fun _ _ _ _ _ => (pg_name (i := 3) sc_are_bounds.nd rfl (.inl rfl))) (fun _ _ _ _ _ => pts_nil) (fun _ _ _ _ _ => (C8.pe_c (cal_is_whole T) hr (by decide) rfl (pa_cons (pv 3) (pa_cons (pe_un un_neg (C8.pe_gc (by rfl) (c_MOST_BOUND T))) (pa_cons (C8.pe_gc (by rfl) (c_MOST_BOUND T)) pa_nil)))))) pa_nil)))) (pss_one (ps_ret pe_bl)) pss_nil)
      (pss_one (ps_ret (pe_and (pe_cmpR op_gt (pe_callB call_len_seq (by rfl) (z_len T) bb_len (pa_cons (pv 2) pa_nil)) pe_int (nomark _)) (pe_one (pe_cmpR op_le (pe_ix ix_list (pv 2) pe_int (fun _ _ => rfl)) (pe_ix ix_list (pv 2) (pe_un un_neg pe_int) (fun _ _ => rfl)) (nomark _)))))))), ?_⟩
    refine ⟨_, rfl, _, rfl, (by show 2 ≤ sizeLine; decide), fun t nt => ?_⟩
    have s1 : Same H (upd H t (.tup [oV bo, oV to])) := same_upd nt
    refine ⟨t, rfl, ⟨_, .inl (.inl upd_same)⟩, fun D nD => ?_⟩
    have nDH : H D = none := s1.free nD
    refine lc_tup (K := K) (a := t) (xs := [oV bo, oV to]) (fun i H1 => Same (upd H t (.tup [oV bo, oV to])) H1 ∧ H1 D = some (.lst ((((([bo, to] : List (Option Int)).take i).filterMap id)).map V.int)))
      ⟨same_upd nD, upd_same⟩ (fun i H1 _ ⟨s2, _⟩ => .inl (.inl (s2 _ _ upd_same))) ?_ ?_
    · rintro i x H1 hx ⟨s2, d1⟩
      obtain ⟨o, eo, ex⟩ : ∃ o : Option Int, ([bo, to] : List (Option Int))[i]? = some o ∧ x = oV o := by
        match i, hx with
        | 0, hx => exact ⟨bo, rfl, (Option.some.inj hx).symm⟩
        | 1, hx => exact ⟨to, rfl, (Option.some.inj hx).symm⟩
      subst ex
      have hi : i < 2 := (List.getElem?_eq_some_iff.mp eo).1
      have e2 : (([bo, to] : List (Option Int)).take (i + 1)).filterMap id = (([bo, to] : List (Option Int)).take i).filterMap id ++ o.toList := by
        rw [List.take_add_one, eo, List.filterMap_append]
        cases o <;> rfl
      refine ⟨rfl, _, rfl, rfl, _, rfl, ?_⟩
      rw [oV_non]
      cases o with
      | none =>
        refine iteF ⟨s2, ?_⟩
        rw [e2, d1]
        show _ = some (HO.lst (List.map V.int (_ ++ [])))
        rw [List.append_nil]
      | some z =>
        refine iteT ⟨_, rfl, _, d1, ?_, ?_, ?_⟩
        · rw [List.length_map]
          refine Nat.lt_of_le_of_lt (List.length_filterMap_le _ _) ?_
          rw [List.length_take]
          exact small1000 (by show min i 2 ≤ 1000; omega)
        · exact same_put s2 nD
        · rw [upd_same, e2, List.map_append]
          rfl
    · rintro H1 ⟨s2, d1⟩
      have d2 : H1 D = some (.lst ((tls bo to).map V.int)) := by
        rw [d1]
        cases bo <;> cases to <;> rfl
      have s3 : Same H H1 := s1.trans s2
      have hlen : (tls bo to).length ≤ 2 := by
        rcases hsh with ⟨u, e⟩ | ⟨u, v, e, _⟩ <;> rw [e] <;> simp
      -- all([is_whole(..) for bound in told])
      refine ⟨_, rfl, D, rfl, ⟨_, .inl (.inl d2)⟩, fun L nL => ?_⟩
      have nLH : H L = none := s3.free nL
      have nDL : D ≠ L := ne_of_none d2 nL
      refine lc_list (K := K) (a := D) (xs := (tls bo to).map V.int) (fun i H2 => Same H H2 ∧ H2 D = some (.lst ((tls bo to).map V.int)) ∧ H2 L = some (.lst ((List.replicate i true).map V.bl)))
        ⟨s3.trans (same_upd nL), by rw [upd_ne nDL]; exact d2, upd_same⟩ (fun i H2 _ ⟨_, d, _⟩ => .inl (.inl d)) ?_ ?_
      · rintro i x H2 hx ⟨s4, d4, l4⟩
        rw [List.getElem?_map] at hx
        cases e : (tls bo to)[i]? with
        | none =>
          rw [e] at hx
          cases hx
        | some z =>
          rw [e] at hx
          cases hx
          have hi : i < (tls bo to).length := (List.getElem?_eq_some_iff.mp e).1
          have hz := hin z (List.mem_of_getElem? e)
          refine ⟨rfl, yes_i (iteT ⟨_, rfl, 1000, rfl, z, -1000, 1000, rfl, _, l4, ?_, ?_, ?_, ?_⟩)⟩
          · rw [List.length_map, List.length_replicate]
            exact small1000 (by omega)
          · exact same_put s4 nLH
          · rw [upd_ne nDL]
            exact d4
          · rw [upd_same, decide_eq_true hz, List.replicate_succ', List.map_append]
            rfl
      · rintro H2 ⟨s4, d4, l4⟩
        refine ⟨L, _, rfl, .inl (.inl l4), _, rfl, ?_⟩
        rw [show (List.replicate ((tls bo to).map V.int).length true).all id = true by simp]
        refine iteF ?_
        -- len(told) > 0 and told[0] <= told[-1]
        refine ⟨_, rfl, D, _, rfl, .inl (.inl (.inl d4)), _, 0, rfl, rfl, _, rfl, ?_⟩
        have fin : ∀ (u v : Int) (pre : List Int), (tls bo to)[0]? = some u → tls bo to = pre ++ [v] → u ≤ v → (if decide ((0 : Int) < ((tls bo to).map V.int).length) = true then
            tOp (rI0 fun i j => .bl (decide (i ≤ j))) (tOp (rIxL K) (tVar 2) (tC (.int 0))) (tOp (rIxL K) (tVar 2) (tUn (rU fun i => .int (-i)) (tC (.int 1)))) [some (oV bo), some (oV to), some (.ref D), none] H2 Q else Q (.bl false) H2) := by
          intro u v pre hu hv huv
          have h0 : 0 < (tls bo to).length := by
            rw [hv, List.length_append]
            exact Nat.succ_pos _
          rw [decide_eq_true (by rw [List.length_map]; omega)]
          have hz : (tls bo to).map V.int = pre.map V.int ++ [.int v] := by
            rw [hv, List.map_append]
            rfl
          refine iteT ⟨_, rfl, D, _, 0, .int u, rfl, rfl, .inl (.inl d4), atI_nat (j := 0) (by rw [List.getElem?_map, hu]; rfl), _, rfl, _, rfl, D, _, _, .int v, rfl, rfl, .inl (.inl d4), ?_, u, v, rfl, rfl, ?_⟩
          · rw [hz]
            exact atI_last _ _
          · show Q (.bl (decide (u ≤ v))) H2
            rw [decide_eq_true huv]
            exact q H2 s4
        rcases hsh with ⟨u, e⟩ | ⟨u, v, e, huv⟩
        · exact fin u u [] (by rw [e]; rfl) (by rw [e]; rfl) (Int.le_refl _)
        · exact fin u v [u] (by rw [e]; rfl) (by rw [e]; rfl) huv
/-! ### is_begin, need_free_name, need_point -/
def sp_is_begin (K : PySem.W.Frag) : Sp := fun vs H Q _ => ∃ (p : Addr) (m : Md) (z : Str), vs = [.ref p, .str z] ∧ WebAt (CW K) H p m ∧ (z = "start" ∨ z ∈ m.own) ∧ ∀ H', Same H H' → Q (.bl true) H'
theorem cal_is_begin (T : Tp K mg) : Cal P w K mg base 3 "is_begin" (sp_is_begin K) := by
  obtain ⟨fd, F⟩ := f_is_begin T
  refine cal_of F (g_is_begin T) (b_is_begin F) sc_is_begin (fun vs H Q E h => ?_) (fun cdv A outer s H vs Q E hr h => ?_)
  · obtain ⟨p, m, z, rfl, _⟩ := h
    rfl
  · obtain ⟨p, m, z, rfl, W, hz, q⟩ := h
    obtain ⟨dx, a, b, c, ws, bs, h1, _⟩ := W.ex
    refine ⟨_, (pss_one (ps_ret (C8.pe_c (cal_is_one_of T) hr (by decide) rfl (pa_cons (pv 1) (pa_cons (pe_op op_cat (pe_lst (pa_cons (C8.pe_gc (by rfl) (c_START T)) pa_nil)) (C8.pe_mt0 (met_Web_moments T) hr (by decide) (pv 0))) pa_nil))))), ?_⟩
    refine ⟨_, rfl, by show 1 ≤ sizeLine; decide, fun l nl => ?_⟩
    have s1 : Same H (upd H l (.lst [.str "start"])) := same_upd nl
    refine ⟨_, rfl, p, dx, _, rfl, s1 _ _ h1, wf_no (by decide +kernel), p, m, rfl, W.same s1, fun k nk => ?_⟩
    have nlk : l ≠ k := fun e => by
      rw [← e, upd_same] at nk
      cases nk
    have s2 := same_upd (o := .lst (m.own.map V.str)) nk
    refine ⟨l, k, _, _, rfl, rfl, (by rw [upd_ne nlk]; exact upd_same), upd_same, ?_, fun r nr => ?_⟩
    · rw [List.length_map]
      have hl := W.len
      exact Nat.le_of_lt (small1000 (by show 1 + _ ≤ 1000; omega))
    · have s3 := same_upd (o := .lst ([.str "start"] ++ m.own.map V.str)) nr
      refine ⟨z, r, "start" :: m.own, rfl, upd_same, ?_⟩
      rw [decide_eq_true (List.mem_cons.mpr hz)]
      exact q _ ((s1.trans s2).trans s3)
def sp_need_free_name (K : PySem.W.Frag) : Sp := fun vs H Q _ => ∃ (p : Addr) (m : Md) (z : Str), vs = [.ref p, .str z] ∧ WebAt (CW K) H p m ∧ Nm z ∧ ¬ z ∈ m.pts ∧ ∀ H', Same H H' → Q .non H'
theorem cal_need_free_name (T : Tp K mg) : Cal P w K mg base 4 "need_free_name" (sp_need_free_name K) := by
  obtain ⟨fd, F⟩ := f_need_free_name T
  refine cal_of F (g_need_free_name T) (b_need_free_name F) sc_need_free_name (fun vs H Q E h => ?_) (fun cdv A outer s H vs Q E hr h => ?_)
  · obtain ⟨p, m, z, rfl, _⟩ := h
    rfl
  · obtain ⟨p, m, z, rfl, W, hn, hz, q⟩ := h
    refine ⟨_, (pss_cons (ps_if (pt_not (pt_val (C8.pe_c (cal_is_name T) hr (by decide) rfl (pa_cons (pv 1) pa_nil)))) (pss_one ps_never) pss_nil)
      (pss_one (ps_if (pt_cmpR op_in_seq (pv 1) (C8.pe_mt0 (met_Web_points T) hr (by decide) (pv 0)) (by rfl)) (pss_one ps_never) pss_nil))), ?_⟩
    refine ⟨_, rfl, z, rfl, hn, fun H1 s1 => ⟨_, rfl, iteF ?_⟩⟩
    have W1 := W.same s1
    obtain ⟨dx, a, b, c, ws, bs, h1, _⟩ := W1.ex
    refine ⟨_, rfl, _, rfl, p, dx, _, rfl, h1, wf_no (by decide +kernel), p, m, rfl, W1, fun k H2 s2 nk ek => ?_⟩
    refine ⟨k, _, rfl, .inl (.inl (.inl ek)), rfl, flat_strs _, _, rfl, ?_⟩
    show if inV (.str z) (m.pts.map V.str) = true then _ else _
    rw [in_strs, decide_eq_false hz]
    exact iteF (q H2 (s1.trans s2))
def sp_need_point (K : PySem.W.Frag) : Sp := fun vs H Q _ => ∃ (p : Addr) (m : Md) (z : Str), vs = [.ref p, .str z] ∧ WebAt (CW K) H p m ∧ z ∈ m.pts ∧ ∀ H', Same H H' → Q .non H'
theorem cal_need_point (T : Tp K mg) : Cal P w K mg base 4 "need_point" (sp_need_point K) := by
  obtain ⟨fd, F⟩ := f_need_point T
  refine cal_of F (g_need_point T) (b_need_point F) sc_need_point (fun vs H Q E h => ?_) (fun cdv A outer s H vs Q E hr h => ?_)
  · obtain ⟨p, m, z, rfl, _⟩ := h
    rfl
  · obtain ⟨p, m, z, rfl, W, hz, q⟩ := h
    obtain ⟨dx, a, b, c, ws, bs, h1, _⟩ := W.ex
    refine ⟨_, (pss_one (ps_if (pt_not (pt_val (C8.pe_c (cal_is_one_of T) hr (by decide) rfl (pa_cons (pv 1) (pa_cons (C8.pe_mt0 (met_Web_points T) hr (by decide) (pv 0)) pa_nil))))) (pss_one ps_never) pss_nil)), ?_⟩
    refine ⟨_, rfl, _, rfl, p, dx, _, rfl, h1, wf_no (by decide +kernel), p, m, rfl, W, fun k H2 s2 nk ek => ?_⟩
    refine ⟨z, k, _, rfl, ek, _, rfl, ?_⟩
    rw [decide_eq_true hz]
    exact iteF (q H2 s2)
/-! ### __len__ -/
def sp_len (K : PySem.W.Frag) : Sp := fun vs H Q _ => ∃ (p : Addr) (m : Md), vs = [.ref p] ∧ WebAt (CW K) H p m ∧ ∀ H', Same H H' → Q (.int (m.pts.length : Nat)) H'
theorem met_Web_UlenU (T : Tp K mg) : Met P w K mg base 4 (CW K) "__len__" (sp_len K) := by
  obtain ⟨fd, F⟩ := f_Web_UlenU T
  refine met_of F (cl_Web T) (me_Web_UlenU T) (b_Web_UlenU F) sc_Web_UlenU (fun vs H Q E h => ?_) (fun cdv A outer s H vs Q E hr h => ?_)
  · obtain ⟨p, m, rfl, _⟩ := h
    rfl
  · obtain ⟨p, m, rfl, W, q⟩ := h
    obtain ⟨dx, a, b, c, ws, bs, h1, _⟩ := W.ex
    refine ⟨_, (pss_one (ps_ret (pe_callB call_len_seq (by rfl) (z_len T) bb_len (pa_cons (C8.pe_mt0 (met_Web_points T) hr (by decide) (pv 0)) pa_nil)))), ?_⟩
    refine ⟨_, rfl, p, dx, _, rfl, h1, wf_no (by decide +kernel), p, m, rfl, W, fun k H2 s2 nk ek => ⟨k, _, rfl, .inl (.inl (.inl ek)), ?_⟩⟩
    rw [List.length_map]
    exact q H2 s2
theorem pts_len {C : Addr} {H : Hp} {p : Addr} {m : Md} (W : WebAt C H p m) : m.pts.length ≤ 15 := by
  have h := W.len
  unfold Md.pts
  rw [List.length_cons, List.length_append, List.length_map]
  omega
/-! ### __repr__ -/
def num (i : Int) : Str := (toString i : String)
theorem num_len : ∀ n : Fin 1001, (num ((n : Nat) : Int)).length ≤ 4 := by decide +kernel
theorem num_le {i : Int} (h0 : 0 ≤ i) (h1 : i ≤ 1000) : (num i).length ≤ 4 := by
  have h := num_len ⟨i.toNat, by omega⟩
  rw [show (((⟨i.toNat, by omega⟩ : Fin 1001) : Nat) : Int) = i from Int.toNat_of_nonneg h0] at h
  exact h
theorem num_log {i : Int} (h0 : 0 ≤ i) (h1 : i ≤ 1000) : i.natAbs.log2 < 1920 := by
  have h : i.natAbs < 2 ^ 1920 := Nat.lt_of_lt_of_le (show i.natAbs < 1024 by omega) (by decide +kernel)
  by_cases hz : i.natAbs = 0
  · rw [hz]
    decide
  · exact (Nat.log2_lt hz).mpr h
def webText (m : Md) : Str := ((((((Str.empty ++ ("Web(" : Str)) ++ num (m.pts.length : Nat)) ++ (" points, " : Str)) ++ num (m.bd.length : Nat)) ++ (" ties, by " : Str)) ++ num m.last) ++ (")" : Str)
theorem short {z : Str} {n : Nat} (h : z.length ≤ n) (hn : n ≤ 1000) : z.length ≤ sizeLine := Nat.le_of_lt (small1000 (Nat.le_trans h hn))
theorem app_le {a b : Str} {m n : Nat} (ha : a.length ≤ m) (hb : b.length ≤ n) : (a ++ b).length ≤ m + n := by
  rw [Str.length_append]
  omega
def sp_repr (K : PySem.W.Frag) : Sp := fun vs H Q _ => ∃ (p : Addr) (m : Md), vs = [.ref p] ∧ WebAt (CW K) H p m ∧ ∀ H', Same H H' → Q (.str (webText m)) H'
theorem met_Web_UreprU (T : Tp K mg) : Met P w K mg base 6 (CW K) "__repr__" (sp_repr K) := by
  obtain ⟨fd, F⟩ := f_Web_UreprU T
  refine met_of F (cl_Web T) (me_Web_UreprU T) (b_Web_UreprU F) sc_Web_UreprU (fun vs H Q E h => ?_) (fun cdv A outer s H vs Q E hr h => ?_)
  · obtain ⟨p, m, rfl, _⟩ := h
    rfl
  · obtain ⟨p, m, rfl, W, q⟩ := h
    obtain ⟨dx, a, b, c, ws, bs, h1, _⟩ := W.ex
    have hp := pts_len W
    have hl := W.len
    have hla := W.last
    refine ⟨_, (pss_one (ps_ret (pe_joined (.cons pe_str (.cons (pe_fmt (pe_callB (call_lenO (met_Web_UlenU T) hr (by decide)) (by rfl) (z_len T) bb_len (pa_cons (pv 0) pa_nil))) (.cons pe_str (.cons (pe_fmt (pe_callB call_len_seq (by rfl) (z_len T) bb_len (pa_cons (pe_fld (pv 0) rfl) pa_nil))) (.cons pe_str (.cons (pe_fmt (pe_fld (pv 0) rfl)) (.cons pe_str .nil)))))))))), ?_⟩
    have l0 : (Str.empty ++ ("Web(" : Str)).length ≤ 4 := by decide +kernel
    have l1 := app_le l0 (num_le (i := (m.pts.length : Nat)) (by omega) (by omega))
    have l2 := app_le l1 (show (" points, " : Str).length ≤ 9 by decide +kernel)
    have l3 := app_le l2 (num_le (i := (m.bd.length : Nat)) (by omega) (by omega))
    have l4 := app_le l3 (show (" ties, by " : Str).length ≤ 10 by decide +kernel)
    have l5 := app_le l4 (num_le (i := m.last) (by omega) (by omega))
    have l6 := app_le l5 (show (")" : Str).length ≤ 1 by decide +kernel)
    refine ⟨("Web(" : Str), rfl, short l0 (by decide), _, rfl, p, dx, _, rfl, h1, p, m, rfl, W, fun H2 s2 => ⟨_, rfl, by omega, by omega, .inr ⟨_, rfl, num_log (by omega) (by omega), _, rfl, short l1 (by decide), ?_⟩⟩⟩
    have W2 := W.same s2
    obtain ⟨dx2, a2, b2, c2, ws2, bs2, g1, g2, g3, g4, g5, g6⟩ := W2.ex
    have hb2 : bs2.length = m.bd.length := by rw [g6.len, List.length_map]
    refine ⟨_, rfl, short l2 (by decide), _, rfl, p, CW K, dx2, _, _, rfl, g1, cl_Web T, na_tie_rows T, wf_t, c2, _, rfl, .inr (.inl (.inl g5)), .inr ⟨_, rfl, num_log (by omega) (by omega), _, rfl, ?_, ?_⟩⟩
    · rw [hb2]
      exact short l3 (by decide)
    · rw [hb2]
      refine ⟨_, rfl, short l4 (by decide), _, rfl, p, CW K, dx2, _, _, rfl, g1, cl_Web T, na_by T, wf_by, .inr ⟨_, rfl, num_log (by omega) (by omega), _, rfl, short l5 (by decide), _, rfl, short l6 (by decide), ?_⟩⟩
      exact q H2 s2
end
end Tw

set_option maxHeartbeats 4000000
namespace Tw
open PySem PySem.Spec PyProof.Rows L2
theorem wh_int {lo hi : Int} {v : V} (h : whB lo hi v = true) : ∃ i : Int, v = .int i ∧ lo ≤ i ∧ i ≤ hi := by
  cases v with
  | int j =>
    have hj := of_decide_eq_true (show decide (lo ≤ j ∧ j ≤ hi) = true from h)
    exact ⟨j, rfl, hj.1, hj.2⟩
  | non => cases h
  | bl b => cases h
  | str z => cases h
  | byt b => cases h
  | flt b => cases h
  | ref b => cases h
  | ty b => cases h
/-- the two lengths are good -/
def lenB (a b : V) : Bool := whB 1 1000 a && match a with
  | .int i => whB i 1000 b
  | _ => false
def lateB (h : V) : Bool := decide (h = .non) || whB 0 1000 h
theorem len_ok {a b : V} (h : lenB a b = true) : ∃ i j : Int, a = .int i ∧ b = .int j ∧ 1 ≤ i ∧ i ≤ j ∧ j ≤ 1000 := by
  obtain ⟨h1, h2⟩ := Bool.and_eq_true_iff.mp h
  obtain ⟨i, rfl, i1, _⟩ := wh_int h1
  obtain ⟨j, rfl, j1, j2⟩ := wh_int (show whB i 1000 b = true from h2)
  exact ⟨i, j, rfl, rfl, i1, j1, j2⟩
theorem late_ok {h : V} (e : lateB h = true) : ∃ o : Option Int, h = oV o ∧ ∀ i, o = some i → 0 ≤ i ∧ i ≤ 1000 := by
  by_cases hn : h = .non
  · exact ⟨none, hn, fun i z => by cases z⟩
  · unfold lateB at e
    rw [decide_eq_false hn, Bool.false_or] at e
    obtain ⟨i, rfl, h1, h2⟩ := wh_int e
    exact ⟨some i, rfl, fun j z => by cases z; exact ⟨h1, h2⟩⟩
section
variable {P : Program} {w : World} {K : PySem.W.Frag} {mg : Str → Option Value} {base : Heap}
/-! ### are_lengths, is_lateness -/
def sp_are_lengths : Sp := fun vs H Q _ => ∃ a b : V, vs = [a, b] ∧ (plK a).isSome = true ∧ (plK b).isSome = true ∧ Q (.bl (lenB a b)) H
theorem cal_are_lengths (T : Tp K mg) : Cal P w K mg base 3 "are_lengths" sp_are_lengths := by
  obtain ⟨fd, F⟩ := f_are_lengths T
  refine cal_of F (g_are_lengths T) (b_are_lengths F) sc_are_lengths (fun vs H Q E h => ?_) (fun cdv A outer s H vs Q E hr h => ?_)
  · obtain ⟨a, b, rfl, _⟩ := h
    rfl
  · obtain ⟨a, b, rfl, pa, pb, q⟩ := h
    refine ⟨_, (pss_one (ps_ret (pe_and (C8.pe_c (cal_iswh T) hr (by decide) rfl (pa_cons (pv 0) (pa_cons pe_int (pa_cons (C8.pe_gc (by rfl) (c_MOST_LENGTH T)) pa_nil)))) (pe_one (C8.pe_c (cal_iswh T) hr (by decide) rfl (pa_cons (pv 1) (pa_cons (pv 0) (pa_cons (C8.pe_gc (by rfl) (c_MOST_LENGTH T)) pa_nil)))))))), ?_⟩
    refine ⟨_, rfl, a, 1, 1000, rfl, pa, _, rfl, ?_⟩
    cases ha : whB 1 1000 a with
    | false =>
      refine iteF ?_
      have e : lenB a b = false := by
        unfold lenB
        rw [ha, Bool.false_and]
      rw [e] at q
      exact q
    | true =>
      obtain ⟨i, rfl, i1, i2⟩ := wh_int ha
      refine iteT ⟨_, rfl, _, rfl, b, i, 1000, rfl, pb, ?_⟩
      have e : lenB (.int i) b = whB i 1000 b := by
        show (whB 1 1000 (.int i) && whB i 1000 b) = _
        rw [ha, Bool.true_and]
      rw [e] at q
      exact q
def sp_is_lateness : Sp := fun vs H Q _ => ∃ h : V, vs = [h] ∧ (plK h).isSome = true ∧ Q (.bl (lateB h)) H
theorem cal_is_lateness (T : Tp K mg) : Cal P w K mg base 3 "is_lateness" sp_is_lateness := by
  obtain ⟨fd, F⟩ := f_is_lateness T
  refine cal_of F (g_is_lateness T) (b_is_lateness F) sc_is_lateness (fun vs H Q E h => ?_) (fun cdv A outer s H vs Q E hr h => ?_)
  · obtain ⟨h, rfl, _⟩ := h
    rfl
  · obtain ⟨h, rfl, ph, q⟩ := h
    refine ⟨_, (pss_one (ps_ret (pe_or (pe_cmpR op_isN (pv 0) pe_non (nomark _)) (pe_one (C8.pe_c (cal_iswh T) hr (by decide) rfl (pa_cons (pv 0) (pa_cons pe_int (pa_cons (C8.pe_gc (by rfl) (c_MOST_LATE T)) pa_nil)))))))), ?_⟩
    refine ⟨_, rfl, rfl, _, rfl, ?_⟩
    unfold lateB at q
    by_cases hn : h = .non
    · rw [decide_eq_true hn] at q ⊢
      exact iteT q
    · rw [decide_eq_false hn, Bool.false_or] at q
      rw [decide_eq_false hn]
      exact iteF ⟨_, rfl, h, 0, 1000, rfl, ph, q⟩
end
section
variable {P : Program} {w : World} {K : PySem.W.Frag} {mg : Str → Option Value} {base : Heap}
/-! ### with_moment -/
def Md.addM (m : Md) (z : Str) : Md := { m with own := m.own ++ [z] }
def Md.addS (m : Md) (x : Wd) : Md := { m with wd := m.wd ++ [x] }
def Md.addT (m : Md) (x : Bd) : Md := { m with bd := m.bd ++ [x] }
def sp_with_moment (K : PySem.W.Frag) : Sp := fun vs H Q _ => ∃ (p : Addr) (m : Md) (z : Str), vs = [.ref p, .str z] ∧ WebAt (CW K) H p m ∧ Nm z ∧ ¬ z ∈ m.pts ∧ m.own.length < 10 ∧ ∀ (q : Addr) (H' : Hp), Same H H' → H q = none → WebAt (CW K) H' q (m.addM z) → Q (.ref q) H'
theorem met_Web_with_moment (T : Tp K mg) : Met P w K mg base 6 (CW K) "with_moment" (sp_with_moment K) := by
  obtain ⟨fd, F⟩ := f_Web_with_moment T
  refine met_of F (cl_Web T) (me_Web_with_moment T) (b_Web_with_moment F) sc_Web_with_moment (fun vs H Q E h => ?_) (fun cdv A outer s H vs Q E hr h => ?_)
  · obtain ⟨p, m, z, rfl, _⟩ := h
    rfl
  · obtain ⟨p, m, z, rfl, W, hn, hz, hl, q⟩ := h
    refine ⟨_, (pss_cons (ps_expr (C8.pe_c (cal_need_free_name T) hr (by decide) rfl (pa_cons (pv 0) (pa_cons (pv 1) pa_nil))))
      (pss_cons (ps_if (pt_cmpR op_ge (pe_callB call_len_seq (by rfl) (z_len T) bb_len (pa_cons (pe_fld (pv 0) rfl) pa_nil)) (C8.pe_gc (by rfl) (c_MOST_MOMENTS T)) (nomark _)) (pss_one ps_never) pss_nil)
      (pss_one (ps_ret (C8.pe_c (cal_woven T) hr (by decide) rfl (pa_cons (pe_fld (pv 0) rfl) (pa_cons (pe_tup (StX.pa_star (pe_fld (pv 0) rfl) (pa_cons (pv 1) pa_nil))) (pa_cons (pe_fld (pv 0) rfl) (pa_cons (pe_fld (pv 0) rfl) pa_nil))))))))), ?_⟩
    refine ⟨_, rfl, _, rfl, p, m, z, rfl, W, hn, hz, fun H1 s1 => ?_⟩
    have W1 := W.same s1
    obtain ⟨dx, a, b, c, ws, bs, h1, h2, h3, h4, h5, h6⟩ := W1.ex
    have hlen := W.len
    refine ⟨_, rfl, p, CW K, dx, _, _, rfl, h1, cl_Web T, na_moment_rows T, wf_m, a, _, rfl, .inr (.inl (.inl h2)), _, _, rfl, rfl, _, rfl, ?_⟩
    rw [decide_eq_false (by rw [List.length_map]; omega)]
    refine iteF ?_
    refine ⟨_, rfl, p, CW K, dx, _, _, rfl, h1, cl_Web T, na_by T, wf_by, _, rfl, p, CW K, dx, _, _, rfl, h1, cl_Web T, na_moment_rows T, wf_m, a, _, rfl, .inl (.inl (.inl h2)), _, rfl, ?_, fun t nt => ?_⟩
    · rw [List.length_append, List.length_map]
      exact Nat.le_of_lt (small1000 (by show _ + 1 ≤ 1000; omega))
    · have s2 := same_upd (o := .tup (m.own.map V.str ++ [.str z])) nt
      refine ⟨_, rfl, p, CW K, dx, _, _, rfl, s2 _ _ h1, cl_Web T, na_span_rows T, wf_s, _, rfl, p, CW K, dx, _, _, rfl, s2 _ _ h1, cl_Web T, na_tie_rows T, wf_t, ?_⟩
      refine ⟨m.addM z, t, b, c, ws, bs, rfl, ?_, s2 _ _ h3, h4.keep (Kt.of s2), s2 _ _ h5, h6.keep (Kt.of s2), ⟨?_, hlen.2.1, hlen.2.2⟩, W.last, fun x H2 s3 nx W3 => q x H2 ((s1.trans s2).trans s3) ((s1.trans s2).free nx) W3⟩
      · rw [upd_same]
        show _ = some (HO.tup ((m.own ++ [z]).map V.str))
        rw [List.map_append]
        rfl
      · show (m.own ++ [z]).length ≤ 10
        rw [List.length_append]
        show _ + 1 ≤ 10
        omega
/-! ### with_span -/
structure SpOk (m : Md) (x : Wd) : Prop where
  nm : Nm x.en
  fresh : ¬ x.en ∈ m.pts
  bg : x.bg = "start" ∨ x.bg ∈ m.own
  lo : 1 ≤ x.lo
  hi : x.lo ≤ x.hi
  top : x.hi ≤ 1000
  la : ∀ i, x.la = some i → 0 ≤ i ∧ i ≤ 1000
  few : m.wd.length < 4
def sp_with_span (K : PySem.W.Frag) : Sp := fun vs H Q _ => ∃ (p : Addr) (m : Md) (x : Wd), vs = [.ref p, .str x.en, .str x.bg, .int x.lo, .int x.hi, oV x.la] ∧ WebAt (CW K) H p m ∧ SpOk m x ∧ ∀ (q : Addr) (H' : Hp), Same H H' → H q = none → WebAt (CW K) H' q (m.addS x) → Q (.ref q) H'
theorem met_Web_with_span (T : Tp K mg) : MetN P w K mg base 6 (CW K) "with_span" (sp_with_span K) 5 ["late"] := by
  obtain ⟨fd, F⟩ := f_Web_with_span T
  refine ⟨_, fd, ["self", "end", "begin", "low", "high", "late"], _, cl_Web T, me_Web_with_span T, fnok_of (k := 5) F sc_Web_with_span (fun vs H Q E h => ?_) (fun cdv A outer s H vs Q E hr h => ?_), kbn_of F fun kV doc pm an cdv ct us ws h1 h2 => match us, ws, h1, h2 with
    | [_, _, _, _, _], [_], _, _ => rfl⟩
  · obtain ⟨p, m, x, rfl, _⟩ := h
    rfl
  · obtain ⟨p, m, x, rfl, W, S, q⟩ := h
    refine ⟨_, (pss_cons (ps_expr (C8.pe_c (cal_need_free_name T) hr (by decide) rfl (pa_cons (pv 0) (pa_cons (pv 1) pa_nil))))
      (pss_cons (ps_if (pt_not (pt_val (C8.pe_c (cal_is_begin T) hr (by decide) rfl (pa_cons (pv 0) (pa_cons (pv 2) pa_nil))))) (pss_one ps_never) pss_nil)
      (pss_cons (ps_if (pt_not (pt_val (C8.pe_c (cal_are_lengths T) hr (by decide) rfl (pa_cons (pv 3) (pa_cons (pv 4) pa_nil))))) (pss_one ps_never) pss_nil)
      (pss_cons (ps_if (pt_not (pt_val (C8.pe_c (cal_is_lateness T) hr (by decide) rfl (pa_cons (pv 5) pa_nil)))) (pss_one ps_never) pss_nil)
      (pss_cons (ps_if (pt_cmpR op_ge (pe_callB call_len_seq (by rfl) (z_len T) bb_len (pa_cons (pe_fld (pv 0) rfl) pa_nil)) (C8.pe_gc (by rfl) (c_MOST_SPANS T)) (nomark _)) (pss_one ps_never) pss_nil)
      (pss_cons (ps_set (i := 6) sc_Web_with_span.nd rfl (.inl rfl) (pe_tup (pa_cons (pv 1) (pa_cons (pv 2) (pa_cons (pv 3) (pa_cons (pv 4) (pa_cons (pv 5) pa_nil)))))))
      (pss_one (ps_ret (C8.pe_c (cal_woven T) hr (by decide) rfl (pa_cons (pe_fld (pv 0) rfl) (pa_cons (pe_fld (pv 0) rfl) (pa_cons (pe_tup (StX.pa_star (pe_fld (pv 0) rfl) (pa_cons (pv 6) pa_nil))) (pa_cons (pe_fld (pv 0) rfl) pa_nil))))))))))))), ?_⟩
    have hlen := W.len
    have few := S.few
    refine ⟨_, rfl, _, rfl, p, m, x.en, rfl, W, S.nm, S.fresh, fun H1 s1 => ?_⟩
    refine ⟨_, rfl, _, rfl, p, m, x.bg, rfl, W.same s1, S.bg, fun H2 s2 => ⟨_, rfl, iteF ?_⟩⟩
    have W2 := (W.same s1).same s2
    refine ⟨_, rfl, _, rfl, .int x.lo, .int x.hi, rfl, rfl, rfl, _, rfl, ?_⟩
    have eL : lenB (.int x.lo) (.int x.hi) = true := by
      show (decide (1 ≤ x.lo ∧ x.lo ≤ 1000) && decide (x.lo ≤ x.hi ∧ x.hi ≤ 1000)) = true
      rw [decide_eq_true ⟨S.lo, Int.le_trans S.hi S.top⟩, decide_eq_true ⟨S.hi, S.top⟩]
      rfl
    have eH : (plK (oV x.la)).isSome = true ∧ lateB (oV x.la) = true := by
      cases e : x.la with
      | none => exact ⟨rfl, rfl⟩
      | some i =>
        refine ⟨rfl, ?_⟩
        show (decide (V.int i = V.non) || decide (0 ≤ i ∧ i ≤ 1000)) = true
        rw [decide_eq_true (S.la i e), Bool.or_true]
    rw [eL]
    refine iteF ⟨_, rfl, oV x.la, rfl, eH.1, _, rfl, ?_⟩
    rw [eH.2]
    refine iteF ?_
    obtain ⟨dx, a, b, c, ws, bs, h1, h2, h3, h4, h5, h6⟩ := W2.ex
    have hw : ws.length = m.wd.length := by rw [h4.len, List.length_map]
    refine ⟨_, rfl, p, CW K, dx, _, _, rfl, h1, cl_Web T, na_span_rows T, wf_s, b, _, rfl, .inr (.inl (.inl h3)), _, _, rfl, rfl, _, rfl, ?_⟩
    rw [decide_eq_false (by rw [hw]; omega)]
    refine iteF ?_
    refine ⟨_, rfl, _, rfl, _, rfl, _, rfl, _, rfl, (by show 5 ≤ sizeLine; decide), fun t nt => ?_⟩
    have s3 := same_upd (o := .tup x.row) nt
    refine ⟨_, rfl, p, CW K, dx, _, _, rfl, s3 _ _ h1, cl_Web T, na_by T, wf_by, _, rfl, p, CW K, dx, _, _, rfl, s3 _ _ h1, cl_Web T, na_moment_rows T, wf_m, _, rfl, p, CW K, dx, _, _, rfl, s3 _ _ h1, cl_Web T, na_span_rows T, wf_s, b, _, rfl, .inl (.inl (.inl (s3 _ _ h3))), .ref t, rfl, ?_, fun u nu => ?_⟩
    · rw [List.length_append]
      exact Nat.le_of_lt (small1000 (by show _ + 1 ≤ 1000; omega))
    · have s4 := same_upd (o := .tup (ws ++ [.ref t])) nu
      have s5 := s3.trans s4
      refine ⟨_, rfl, p, CW K, dx, _, _, rfl, s5 _ _ h1, cl_Web T, na_tie_rows T, wf_t, ?_⟩
      have rw' : Rows (upd (upd H2 t (.tup x.row)) u (.tup (ws ++ [.ref t]))) (ws ++ [.ref t]) ((m.addS x).wd.map Wd.row) := by
        show Rows _ _ ((m.wd ++ [x]).map Wd.row)
        rw [List.map_append]
        exact (h4.keep (Kt.of s5)).snoc (s4 _ _ upd_same)
      refine ⟨m.addS x, a, u, c, ws ++ [V.ref t], bs, rfl, s5 _ _ h2, upd_same, rw', s5 _ _ h5, h6.keep (Kt.of s5), ⟨hlen.1, ?_, hlen.2.2⟩, W.last, fun y H5 s6 ny W5 => q y H5 (((s1.trans s2).trans s5).trans s6) (((s1.trans s2).trans s5).free ny) W5⟩
      show (m.wd ++ [x]).length ≤ 4
      rw [List.length_append]
      show _ + 1 ≤ 4
      omega
/-! ### with_tie -/
structure TiOk (m : Md) (x : Bd) : Prop where
  one : x.one ∈ m.pts
  oth : x.oth ∈ m.pts
  ne : ¬ x.one = x.oth
  b : BOk x.bot x.top
  few : m.bd.length < 40
def sp_with_tie (K : PySem.W.Frag) : Sp := fun vs H Q _ => ∃ (p : Addr) (m : Md) (x : Bd), vs = [.ref p, .str x.one, .str x.oth, oV x.bot, oV x.top] ∧ WebAt (CW K) H p m ∧ TiOk m x ∧ ∀ (q : Addr) (H' : Hp), Same H H' → H q = none → WebAt (CW K) H' q (m.addT x) → Q (.ref q) H'
theorem met_Web_with_tie (T : Tp K mg) : MetN P w K mg base 6 (CW K) "with_tie" (sp_with_tie K) 3 ["least", "most"] := by
  obtain ⟨fd, F⟩ := f_Web_with_tie T
  refine ⟨_, fd, ["self", "one", "other", "least", "most"], _, cl_Web T, me_Web_with_tie T, fnok_of (k := 5) F sc_Web_with_tie (fun vs H Q E h => ?_) (fun cdv A outer s H vs Q E hr h => ?_), kbn_of F fun kV doc pm an cdv ct us ws h1 h2 => match us, ws, h1, h2 with
    | [_, _, _], [_, _], _, _ => rfl⟩
  · obtain ⟨p, m, x, rfl, _⟩ := h
    rfl
  · obtain ⟨p, m, x, rfl, W, S, q⟩ := h
    refine ⟨_, (pss_cons (ps_expr (C8.pe_c (cal_need_point T) hr (by decide) rfl (pa_cons (pv 0) (pa_cons (pv 1) pa_nil))))
      (pss_cons (ps_expr (C8.pe_c (cal_need_point T) hr (by decide) rfl (pa_cons (pv 0) (pa_cons (pv 2) pa_nil))))
      (pss_cons (ps_if (PW.pt (pw_or (pt_cmpR op_eq (pv 1) (pv 2) (nomark _)) (pw_or1 (pt_not (pt_val (C8.pe_c (cal_are_bounds T) hr (by decide) rfl (pa_cons (pv 3) (pa_cons (pv 4) pa_nil)))))))) (pss_one ps_never) pss_nil)
      (pss_cons (ps_if (pt_cmpR op_ge (pe_callB call_len_seq (by rfl) (z_len T) bb_len (pa_cons (pe_fld (pv 0) rfl) pa_nil)) (C8.pe_gc (by rfl) (c_MOST_TIES T)) (nomark _)) (pss_one ps_never) pss_nil)
      (pss_cons (ps_set (i := 5) sc_Web_with_tie.nd rfl (.inl rfl) (pe_tup (pa_cons (pv 1) (pa_cons (pv 2) (pa_cons (pv 3) (pa_cons (pv 4) pa_nil))))))
      (pss_one (ps_ret (C8.pe_c (cal_woven T) hr (by decide) rfl (pa_cons (pe_fld (pv 0) rfl) (pa_cons (pe_fld (pv 0) rfl) (pa_cons (pe_fld (pv 0) rfl) (pa_cons (pe_tup (StX.pa_star (pe_fld (pv 0) rfl) (pa_cons (pv 5) pa_nil))) pa_nil)))))))))))), ?_⟩
    have hlen := W.len
    have few := S.few
    refine ⟨_, rfl, _, rfl, p, m, x.one, rfl, W, S.one, fun H1 s1 => ?_⟩
    refine ⟨_, rfl, _, rfl, p, m, x.oth, rfl, W.same s1, S.oth, fun H2 s2 => ?_⟩
    have W2 := (W.same s1).same s2
    refine ⟨_, rfl, _, rfl, rfl, _, rfl, ?_⟩
    rw [decide_eq_false (show ¬ V.str x.one = V.str x.oth from fun e => S.ne (V.str.inj e))]
    refine iteF ⟨_, rfl, _, rfl, x.bot, x.top, rfl, S.b, fun H3 s3 => ⟨_, rfl, iteF ?_⟩⟩
    have W3 := W2.same s3
    obtain ⟨dx, a, b, c, ws, bs, h1, h2, h3, h4, h5, h6⟩ := W3.ex
    have hb : bs.length = m.bd.length := by rw [h6.len, List.length_map]
    refine ⟨_, rfl, p, CW K, dx, _, _, rfl, h1, cl_Web T, na_tie_rows T, wf_t, c, _, rfl, .inr (.inl (.inl h5)), _, _, rfl, rfl, _, rfl, ?_⟩
    rw [decide_eq_false (by rw [hb]; omega)]
    refine iteF ?_
    refine ⟨_, rfl, _, rfl, _, rfl, _, rfl, (by show 4 ≤ sizeLine; decide), fun t nt => ?_⟩
    have s4 := same_upd (o := .tup x.row) nt
    refine ⟨_, rfl, p, CW K, dx, _, _, rfl, s4 _ _ h1, cl_Web T, na_by T, wf_by, _, rfl, p, CW K, dx, _, _, rfl, s4 _ _ h1, cl_Web T, na_moment_rows T, wf_m, _, rfl, p, CW K, dx, _, _, rfl, s4 _ _ h1, cl_Web T, na_span_rows T, wf_s, _, rfl, p, CW K, dx, _, _, rfl, s4 _ _ h1, cl_Web T, na_tie_rows T, wf_t, c, _, rfl, .inl (.inl (.inl (s4 _ _ h5))), .ref t, rfl, ?_, fun u nu => ?_⟩
    · rw [List.length_append]
      exact Nat.le_of_lt (small1000 (by show _ + 1 ≤ 1000; omega))
    · have s5 := same_upd (o := .tup (bs ++ [.ref t])) nu
      have s6 := s4.trans s5
      have rb' : Rows (upd (upd H3 t (.tup x.row)) u (.tup (bs ++ [.ref t]))) (bs ++ [.ref t]) ((m.addT x).bd.map Bd.row) := by
        show Rows _ _ ((m.bd ++ [x]).map Bd.row)
        rw [List.map_append]
        exact (h6.keep (Kt.of s6)).snoc (s5 _ _ upd_same)
      have sa := ((s1.trans s2).trans s3).trans s6
      refine ⟨m.addT x, a, b, u, ws, bs ++ [V.ref t], rfl, s6 _ _ h2, s6 _ _ h3, h4.keep (Kt.of s6), upd_same, rb', ⟨hlen.1, hlen.2.1, ?_⟩, W.last, fun y H5 s7 ny W5 => q y H5 (sa.trans s7) (sa.free ny) W5⟩
      show (m.bd ++ [x]).length ≤ 40
      rw [List.length_append]
      show _ + 1 ≤ 40
      omega
end
end Tw

set_option maxHeartbeats 4000000
namespace Tw
open PySem PySem.Spec PyProof.Rows L2
/-! ### the law's flow of numbers -/
structure Flow (H : Hp) (f c : Addr) : Prop where
  ex : ∃ (ns : List Int) (i r st : Int), H f = some (.lst [.ref c, .int i, .int r, .int st]) ∧ H c = some (.lst (ns.map V.int)) ∧ 0 ≤ i ∧ 0 ≤ r ∧ 0 ≤ st ∧ st < 2147483647
theorem Flow.lst {H : Hp} {f c : Addr} (h : Flow H f c) : ∃ xs, H f = some (.lst xs) := let ⟨_, _, _, _, e, _⟩ := h.ex; ⟨_, e⟩
theorem Flow.cells {H : Hp} {f c : Addr} (h : Flow H f c) : ∃ xs, H c = some (.lst xs) := let ⟨_, _, _, _, _, e, _⟩ := h.ex; ⟨_, e⟩
theorem Flow.keep {H H' : Hp} {f c : Addr} (h : Flow H f c) (h1 : ∀ o, H f = some o → H' f = some o) (h2 : ∀ o, H c = some o → H' c = some o) : Flow H' f c := by
  obtain ⟨ns, i, r, st, e1, e2, e3⟩ := h.ex
  exact ⟨ns, i, r, st, h1 _ e1, h2 _ e2, e3⟩
theorem Flow.same {H H' : Hp} {f c : Addr} (h : Flow H f c) (s : Same H H') : Flow H' f c := h.keep (fun _ e => s _ _ e) (fun _ e => s _ _ e)
theorem Flow.upd {H : Hp} {f c p : Addr} {o : HO} (h : Flow H f c) (n1 : f ≠ p) (n2 : c ≠ p) : Flow (upd H p o) f c := h.keep (fun _ e => by rw [upd_ne n1]; exact e) (fun _ e => by rw [upd_ne n2]; exact e)
theorem flow_ne {H : Hp} {f c : Addr} {i r st : Int} {ns : List Int} (h1 : H f = some (.lst [.ref c, .int i, .int r, .int st])) (h2 : H c = some (.lst (ns.map V.int))) : c ≠ f := by
  refine ne_of h2 h1 fun e => ?_
  have e := HO.lst.inj e
  cases ns with
  | nil => cases e
  | cons x l =>
    have e1 := (List.cons.inj e).1
    cases e1
theorem Flow.put {H : Hp} {f c : Addr} {i r st : Int} {ns : List Int} (h1 : H f = some (.lst [.ref c, .int i, .int r, .int st])) (h2 : H c = some (.lst (ns.map V.int))) {i' r' st' : Int} (a : 0 ≤ i') (b : 0 ≤ r') (d : 0 ≤ st') (e : st' < 2147483647) :
    Flow (L2.upd H f (.lst [.ref c, .int i', .int r', .int st'])) f c := ⟨ns, i', r', st', upd_same, by rw [upd_ne (flow_ne h1 h2)]; exact h2, a, b, d, e⟩
theorem cut_ints (ns : List Int) (lo hi : Option Int) : ∃ ms : List Int, cutV (ns.map V.int) lo hi = ms.map V.int := by
  unfold cutV
  refine ⟨(ns.drop (HT.sIx (ns.map V.int).length 0 lo)).take (HT.sIx (ns.map V.int).length (ns.map V.int).length hi - HT.sIx (ns.map V.int).length 0 lo), ?_⟩
  rw [List.map_take, List.map_drop]
theorem fm_lo (x : Int) {n : Int} (h : 0 < n) : 0 ≤ x.fmod n := by
  rw [Int.fmod_eq_emod_of_nonneg _ (Int.le_of_lt h)]
  exact Int.emod_nonneg _ (Int.ne_of_gt h)
theorem fm_hi (x : Int) {n : Int} (h : 0 < n) : x.fmod n < n := by
  rw [Int.fmod_eq_emod_of_nonneg _ (Int.le_of_lt h)]
  exact Int.emod_lt_of_pos _ h
theorem fd_lo {x n : Int} (hx : 0 ≤ x) (h : 0 < n) : 0 ≤ x.fdiv n := by
  rw [Int.fdiv_eq_ediv_of_nonneg _ (Int.le_of_lt h)]
  exact Int.ediv_nonneg hx (Int.le_of_lt h)
theorem abs_lo (x : Int) : (0 : Int) ≤ if x < 0 then -x else x := by
  split <;> omega
section
variable {P : Program} {w : World} {K : PySem.W.Frag} {mg : Str → Option Value} {base : Heap}
def CDivX (_ j : Int) : Prop := j ≠ 0 ∧ j.natAbs.log2 < 9000
theorem op_fdivX {X : Cx} : OpR X (binaryOp .FloorDiv) (rI CDivX fun i j => .int (i.fdiv j)) := opI fun _ _ _ _ _ _ _ hc q => floordiv_int hc.1 q (.inl (PyProof.noPylong_of_log2 hc.2))
theorem big_log {n : Int} (h1 : n < 1606938044258990275541962092341162602522202993782792835301376) (h0 : 0 < n) : n.natAbs.log2 < 9000 := by
  have h : n.natAbs < 2 ^ 200 := by
    have e : (2 : Nat) ^ 200 = 1606938044258990275541962092341162602522202993782792835301376 := by decide +kernel
    rw [e]
    omega
  exact Nat.lt_trans ((Nat.log2_lt (by omega)).mpr h) (by decide)
def sp_flow (K : PySem.W.Frag) : Sp := fun vs H Q _ => ∃ (a : Addr) (ns : List Int), vs = [.ref a] ∧ SqL K H a (ns.map V.int) ∧ ∀ (f c : Addr) (H' : Hp), Same H H' → H f = none → H c = none → Flow H' f c → Q (.ref f) H'
theorem cal__law_flow (T : Tp K mg) : Cal P w K mg base 2 "_law_flow" (sp_flow K) := by
  obtain ⟨fd, F⟩ := f__law_flow T
  refine cal_of F (g__law_flow T) (b__law_flow F) sc__law_flow (fun vs H Q E h => ?_) (fun cdv A outer s H vs Q E hr h => ?_)
  · obtain ⟨a, ns, rfl, _⟩ := h
    rfl
  · obtain ⟨a, ns, rfl, hS, q⟩ := h
    refine ⟨_, (pss_one (ps_ret (pe_lst (pa_cons (pe_callTy call_list_of (by rfl) (z_list T) bb_list (pa_cons (pe_slice sl_list (pv 0) po_none (po_some pe_int)) pa_nil)) (pa_cons pe_int (pa_cons pe_int (pa_cons pe_int pa_nil))))))), ?_⟩
    refine ⟨_, rfl, 63, rfl, a, _, rfl, hS, fun p np => ?_⟩
    obtain ⟨ms, e⟩ := cut_ints ns none (some 63)
    rw [e]
    have s1 := same_upd (o := .lst (ms.map V.int)) np
    refine ⟨p, _, rfl, .inl (.inl (.inl upd_same)), fun l nl => ?_⟩
    have s2 := same_upd (o := .lst (ms.map V.int)) nl
    refine ⟨by show 4 ≤ sizeLine; decide, fun f nf => ?_⟩
    have s3 := same_upd (o := .lst [.ref l, .int 0, .int 0, .int 11]) nf
    have sa := s1.trans s2
    exact q f l _ (sa.trans s3) (sa.free nf) (s1.free nl) ⟨ms, 0, 0, 11, upd_same, s3 _ _ upd_same, by decide, by decide, by decide, by decide⟩
/-! ### _law_draw -/
def sp_draw : Sp := fun vs H Q _ => ∃ (f c : Addr) (n : Int), vs = [.ref f, .int n] ∧ Flow H f c ∧ 0 < n ∧ n < 1606938044258990275541962092341162602522202993782792835301376 ∧ ∀ (v : Int) (H' : Hp), 0 ≤ v → v < n → Sb f H H' → Flow H' f c → Q (.int v) H'
theorem cal__law_draw (T : Tp K mg) : Cal P w K mg base 2 "_law_draw" sp_draw := by
  obtain ⟨fd, F⟩ := f__law_draw T
  refine cal_of F (g__law_draw T) (b__law_draw F) sc__law_draw (fun vs H Q E h => ?_) (fun cdv A outer s H vs Q E hr h => ?_)
  · obtain ⟨f, c, n, rfl, _⟩ := h
    rfl
  · obtain ⟨f, c, n, rfl, FL, n0, n1, q⟩ := h
    obtain ⟨ns, i, r, st, hf, hc, i0, r0, st0, st1⟩ := FL.ex
    have hn : n ≠ 0 := by omega
    have hdiv : CDivX r n := ⟨hn, big_log n1 n0⟩
    have ncf := flow_ne hf hc
    refine ⟨_, (pss_cons (ps_if (pt_cmpR op_gt (pe_ix ix_list (pv 0) pe_int (fun _ _ => rfl)) pe_int (nomark _)) (pss_cons (ps_set (i := 2) sc__law_draw.nd rfl (.inl rfl) (pe_op op_modN (pe_ix ix_list (pv 0) pe_int (fun _ _ => rfl)) (pv 1)))
        (pss_cons (ps_asg (pe_op op_fdivX (pe_ix ix_list (pv 0) pe_int (fun _ _ => rfl)) (pv 1)) (pg_sub (pv 0) pe_int set_list))
        (pss_one (ps_ret (pv 2))))) pss_nil)
      (pss_cons (ps_set (i := 3) sc__law_draw.nd rfl (.inl rfl) pe_int)
      (C8.pss_cut (ps_if (pt_cmpR op_lt (pe_ix ix_list (pv 0) pe_int (fun _ _ => rfl)) (pe_callB call_len_seq (by rfl) (z_len T) bb_len (pa_cons (pe_ix ix_list (pv 0) pe_int (fun _ _ => rfl)) pa_nil)) (nomark _)) (pss_one (ps_set (i := 3) sc__law_draw.nd rfl (.inl rfl) (pe_ix ix_list (pe_ix ix_list (pv 0) pe_int (fun _ _ => rfl)) (pe_ix ix_list (pv 0) pe_int (fun _ _ => rfl)) (fun _ _ => rfl)))) pss_nil)
      (pss_cons (ps_asg (pe_op op_add (pe_ix ix_list (pv 0) pe_int (fun _ _ => rfl)) pe_int) (pg_sub (pv 0) pe_int set_list))
      (pss_cons (ps_if (pt_cmpR op_ge (pe_callB call_abs (by rfl) (z_abs T) bb_abs (pa_cons (pv 3) pa_nil)) (pe_op op_pow pe_int pe_int) (nomark _)) (pss_cons (ps_asg (pe_op op_fdivX (pe_callB call_abs (by rfl) (z_abs T) bb_abs (pa_cons (pv 3) pa_nil)) (pv 1)) (pg_sub (pv 0) pe_int set_list))
        (pss_one (ps_ret (pe_op op_modN (pe_callB call_abs (by rfl) (z_abs T) bb_abs (pa_cons (pv 3) pa_nil)) (pv 1))))) pss_nil)
      (pss_cons (ps_set (i := 4) sc__law_draw.nd rfl (.inl rfl) (pe_op op_add (pe_op op_add (pe_op op_pow (pe_ix ix_list (pv 0) pe_int (fun _ _ => rfl)) pe_int) (pe_op op_mul (pe_ix ix_list (pv 0) pe_int (fun _ _ => rfl)) pe_int)) (pe_op op_mul (pe_ix ix_list (pv 0) pe_int (fun _ _ => rfl)) pe_int)))
      (pss_cons (ps_set (i := 4) sc__law_draw.nd rfl (.inl rfl) (pe_op op_modN (pe_op op_add (pv 4) (pe_op op_mul (pe_op op_modN (pv 3) pe_int) pe_int)) pe_int))
      (pss_cons (ps_asg (pv 4) (pg_sub (pv 0) pe_int set_list))
      (pss_one (ps_ret (pe_op op_modN (pe_op op_add (pe_op op_fdivN (pv 4) pe_int) (pe_op op_mul (pe_op op_modN (pv 4) pe_int) pe_int)) (pv 1)))))))))))), ?_⟩
    refine ⟨_, rfl, f, _, 2, _, rfl, rfl, .inl (.inl hf), atI_nat (j := 2) rfl, _, _, rfl, rfl, _, rfl, ite2 (fun e => ?_) (fun e => ?_)⟩
    · -- numbers are left of a great one
      refine ⟨_, rfl, f, _, 2, _, rfl, rfl, .inl (.inl hf), atI_nat (j := 2) rfl, _, rfl, _, _, rfl, rfl, hn, ?_⟩
      refine ⟨_, rfl, f, _, 2, _, rfl, rfl, .inl (.inl hf), atI_nat (j := 2) rfl, _, rfl, _, _, rfl, rfl, hdiv, _, rfl, f, _, 2, 2, rfl, rfl, hf, rfl, ?_⟩
      exact ⟨_, rfl, q _ _ (fm_lo _ n0) (fm_hi _ n0) Sb.upd (Flow.put hf hc i0 (fd_lo r0 n0) st0 st1)⟩
    · -- the next cell
      refine ⟨fun σ' H' => H' = H ∧ ∃ x : Int, σ' = [some (.ref f), some (.int n), none, some (.int x), none], ?_, ?_⟩
      · refine ⟨_, rfl, f, _, 1, _, rfl, rfl, .inl (.inl hf), atI_nat (j := 1) rfl, _, rfl, f, _, 0, _, rfl, rfl, .inl (.inl hf), atI_nat (j := 0) rfl, c, _, rfl, .inl (.inl (.inl hc)), _, _, rfl, rfl, _, rfl, ite2 (fun e => ?_) (fun e => ?_)⟩
        · have hi : i < ((ns.map V.int).length : Int) := of_decide_eq_true e
          rw [List.length_map] at hi
          have hj : i.toNat < ns.length := by omega
          refine ⟨_, rfl, f, _, 0, _, rfl, rfl, .inl (.inl hf), atI_nat (j := 0) rfl, _, rfl, f, _, 1, _, rfl, rfl, .inl (.inl hf), atI_nat (j := 1) rfl, c, _, i, .int ns[i.toNat], rfl, rfl, .inl (.inl hc), ?_, rfl, ns[i.toNat], rfl⟩
          refine at_of (j := i.toNat) (by omega) ?_
          rw [List.getElem?_map, List.getElem?_eq_getElem hj]
          rfl
        · exact ⟨rfl, 0, rfl⟩
      · rintro σ' H' ⟨rfl, x, rfl⟩
        -- flow[1] = flow[1] + 1
        refine ⟨_, rfl, f, _, 1, _, rfl, rfl, .inl (.inl hf), atI_nat (j := 1) rfl, _, _, rfl, rfl, _, rfl, f, _, 1, 1, rfl, rfl, hf, rfl, ?_⟩
        have hf1 : (upd H' f (.lst [.ref c, .int (i + 1), .int r, .int st])) f = some (.lst [.ref c, .int (i + 1), .int r, .int st]) := upd_same
        have hc1 : (upd H' f (.lst [.ref c, .int (i + 1), .int r, .int st])) c = some (.lst (ns.map V.int)) := by
          rw [upd_ne ncf]
          exact hc
        have sb1 : Sb f H' (upd H' f (.lst [.ref c, .int (i + 1), .int r, .int st])) := Sb.upd
        have a0 := abs_lo x
        refine ⟨_, rfl, _, rfl, 10, 18, rfl, rfl, ⟨by decide, by decide, by decide⟩, _, _, rfl, rfl, _, rfl, ite2 (fun e => ?_) (fun e => ?_)⟩
        · refine ⟨_, rfl, _, rfl, _, rfl, _, _, rfl, rfl, ⟨hn, big_log n1 n0⟩, _, rfl, f, _, 2, 2, rfl, rfl, hf1, rfl, ?_⟩
          exact ⟨_, rfl, _, rfl, _, rfl, _, _, rfl, rfl, hn, q _ _ (fm_lo _ n0) (fm_hi _ n0) (sb1.trans Sb.upd) (Flow.put hf1 hc1 (by omega) (fd_lo a0 n0) st0 st1)⟩
        · refine ⟨_, rfl, f, _, 3, _, rfl, rfl, .inl (.inl hf1), atI_nat (j := 3) rfl, st, 3, rfl, rfl, ⟨by decide, by decide, by omega⟩, ?_⟩
          refine ⟨_, rfl, f, _, 3, _, rfl, rfl, .inl (.inl hf1), atI_nat (j := 3) rfl, st, 31, rfl, rfl, .inr ⟨by decide, by decide⟩, _, _, rfl, rfl, ?_⟩
          refine ⟨_, rfl, f, _, 1, _, rfl, rfl, .inl (.inl hf1), atI_nat (j := 1) rfl, i + 1, 69621, rfl, rfl, .inr ⟨by decide, by decide⟩, _, _, rfl, rfl, ?_⟩
          refine ⟨_, rfl, _, rfl, x, 2147483629, rfl, rfl, (show (2147483629 : Int) ≠ 0 by decide), _, 48271, rfl, rfl, .inr ⟨by decide, by decide⟩, _, _, rfl, rfl, _, 2147483647, rfl, rfl, (show (2147483647 : Int) ≠ 0 by decide), ?_⟩
          have b0 := fm_lo (st ^ (3 : Int).toNat + st * 31 + (i + 1) * 69621 + x.fmod 2147483629 * 48271) (n := 2147483647) (by decide)
          have b1 := fm_hi (st ^ (3 : Int).toNat + st * 31 + (i + 1) * 69621 + x.fmod 2147483629 * 48271) (n := 2147483647) (by decide)
          refine ⟨_, rfl, _, rfl, f, _, 3, 3, rfl, rfl, hf1, rfl, ?_⟩
          refine ⟨_, rfl, _, 8192, rfl, rfl, ⟨by decide, by decide⟩, _, rfl, _, 8191, rfl, rfl, (show (8191 : Int) ≠ 0 by decide), _, 40503, rfl, rfl, .inr ⟨by decide, by decide⟩, _, _, rfl, rfl, _, rfl, _, n, rfl, rfl, hn, ?_⟩
          exact q _ _ (fm_lo _ n0) (fm_hi _ n0) (sb1.trans Sb.upd) (Flow.put hf1 hc1 (by omega) r0 b0 b1)
/-! ### _law_pick -/
def sp_pick : Sp := fun vs H Q _ => ∃ (f c l : Addr) (xs : List V), vs = [.ref f, .ref l] ∧ Flow H f c ∧ H l = some (.lst xs) ∧ l ≠ f ∧ 0 < xs.length ∧ xs.length ≤ 1000 ∧ ∀ (v : V) (H' : Hp), v ∈ xs → Sb f H H' → Flow H' f c → Q v H'
theorem cal__law_pick (T : Tp K mg) : Cal P w K mg base 3 "_law_pick" sp_pick := by
  obtain ⟨fd, F⟩ := f__law_pick T
  refine cal_of F (g__law_pick T) (b__law_pick F) sc__law_pick (fun vs H Q E h => ?_) (fun cdv A outer s H vs Q E hr h => ?_)
  · obtain ⟨f, c, l, xs, rfl, _⟩ := h
    rfl
  · obtain ⟨f, c, l, xs, rfl, FL, hl, nlf, h0, h1, q⟩ := h
    refine ⟨_, (pss_one (ps_ret (pe_ix ix_list (pv 1) (C8.pe_c (cal__law_draw T) hr (by decide) rfl (pa_cons (pv 0) (pa_cons (pe_callB call_len_seq (by rfl) (z_len T) bb_len (pa_cons (pv 1) pa_nil)) pa_nil))) (fun _ _ => rfl)))), ?_⟩
    refine ⟨_, rfl, _, rfl, _, rfl, l, _, rfl, .inl (.inl (.inl hl)), f, c, _, rfl, FL, by omega, by omega, fun v H1 v0 v1 sb F1 => ?_⟩
    have hv : v.toNat < xs.length := by omega
    exact ⟨l, xs, v, xs[v.toNat], rfl, rfl, .inl (.inl (sb _ _ hl nlf)), at_of (j := v.toNat) (by omega) (List.getElem?_eq_getElem hv), q _ H1 (List.getElem_mem hv) sb F1⟩
end
end Tw

set_option maxHeartbeats 4000000
namespace Tw
open PySem PySem.Spec PyProof.Rows L2
/-! ### the law's own picture of a web: a dict -/
abbrev kBy : Key := .inr "by"
abbrev kOwn : Key := .inr "own"
abbrev kWd : Key := .inr "winds"
abbrev kBd : Key := .inr "bonds"
theorem k1 : ¬ kBy = kOwn := by decide +kernel
theorem k2 : ¬ kBy = kWd := by decide +kernel
theorem k3 : ¬ kBy = kBd := by decide +kernel
theorem k4 : ¬ kOwn = kWd := by decide +kernel
theorem k5 : ¬ kOwn = kBd := by decide +kernel
theorem k6 : ¬ kWd = kBd := by decide +kernel
def mk (l : Int) (o w b : Addr) : List (Key × V) := [(kBy, .int l), (kOwn, .ref o), (kWd, .ref w), (kBd, .ref b)]
section
variable {l : Int} {o w b o2 : Addr} {H : Hp} {d : Addr}
theorem mk_by (h : H d = some (.dK (mk l o w b))) : DGet H d (.str "by") (some (.int l)) := .inl ⟨_, kBy, .inl h, rfl, by
  unfold mk
  rw [valV_pos rfl]⟩
theorem mk_own (h : H d = some (.dK (mk l o w b))) : DGet H d (.str "own") (some (.ref o)) := .inl ⟨_, kOwn, .inl h, rfl, by
  unfold mk
  rw [valV_neg k1, valV_pos rfl]⟩
theorem mk_wd (h : H d = some (.dK (mk l o w b))) : DGet H d (.str "winds") (some (.ref w)) := .inl ⟨_, kWd, .inl h, rfl, by
  unfold mk
  rw [valV_neg k2, valV_neg k4, valV_pos rfl]⟩
theorem mk_bd (h : H d = some (.dK (mk l o w b))) : DGet H d (.str "bonds") (some (.ref b)) := .inl ⟨_, kBd, .inl h, rfl, by
  unfold mk
  rw [valV_neg k3, valV_neg k5, valV_neg k6, valV_pos rfl]⟩
theorem mk_putOwn : putK (mk l o w b) kOwn (.ref o2) = mk l o2 w b := by
  have n4 : ¬ kWd = kOwn := fun e => k4 e.symm
  have n5 : ¬ kBd = kOwn := fun e => k5 e.symm
  unfold putK mk
  rw [if_pos (by rw [List.any_cons, List.any_cons, decide_eq_true (rfl : kOwn = kOwn)]; simp)]
  simp only [List.map_cons, List.map_nil, if_neg k1, if_neg n4, if_neg n5, if_true]
end
theorem mk_merge (l : Int) (o w b : Addr) : mergeK [] [(kBy, .int l), (kOwn, .ref o), (kWd, .ref w), (kBd, .ref b)] = mk l o w b := by
  show putK (putK (putK (putK [] kBy (.int l)) kOwn (.ref o)) kWd (.ref w)) kBd (.ref b) = mk l o w b
  rw [putK_new (kvs := []) _ valV_nil, List.nil_append]
  rw [putK_new (kvs := [(kBy, V.int l)]) _ (by rw [valV_neg k1]; rfl), List.singleton_append]
  rw [putK_new (kvs := [(kBy, V.int l), (kOwn, V.ref o)]) _ (by rw [valV_neg k2, valV_neg k4]; rfl), List.cons_append, List.singleton_append]
  rw [putK_new (kvs := [(kBy, V.int l), (kOwn, V.ref o), (kWd, V.ref w)]) _ (by rw [valV_neg k3, valV_neg k5, valV_neg k6]; rfl)]
  rfl
/-- the picture m stands at d -/
structure MdAt (H : Hp) (d : Addr) (m : Md) : Prop where
  ex : ∃ (o w b : Addr) (ws bs : List V), H d = some (.dK (mk m.last o w b)) ∧ H o = some (.lst (m.own.map V.str)) ∧ H w = some (.lst ws) ∧ Rows H ws (m.wd.map Wd.row) ∧ H b = some (.lst bs) ∧ Rows H bs (m.bd.map Bd.row) ∧ o ≠ w ∧ o ≠ b ∧ w ≠ b
/-- .. with its three lists at o, w, b -/
structure MdX (H : Hp) (d o w b : Addr) (m : Md) : Prop where
  dk : H d = some (.dK (mk m.last o w b))
  own : H o = some (.lst (m.own.map V.str))
  wd : ∃ ws, H w = some (.lst ws) ∧ Rows H ws (m.wd.map Wd.row)
  bd : ∃ bs, H b = some (.lst bs) ∧ Rows H bs (m.bd.map Bd.row)
  now : o ≠ w
  nob : o ≠ b
  nwb : w ≠ b
theorem MdX.at {H : Hp} {d o w b : Addr} {m : Md} (M : MdX H d o w b m) : MdAt H d m := by
  obtain ⟨ws, h1, h2⟩ := M.wd
  obtain ⟨bs, h3, h4⟩ := M.bd
  exact ⟨o, w, b, ws, bs, M.dk, M.own, h1, h2, h3, h4, M.now, M.nob, M.nwb⟩
theorem strs_flow {H : Hp} {f c a : Addr} {l : List Str} (F : Flow H f c) (h : H a = some (.lst (l.map V.str))) : a ≠ f := by
  obtain ⟨ns, i, r, st, h1, _⟩ := F.ex
  refine ne_of h h1 fun e => ?_
  have e := HO.lst.inj e
  cases l with
  | nil => cases e
  | cons x t =>
    have e1 := (List.cons.inj e).1
    cases e1
theorem rows_flow {H : Hp} {f c a : Addr} {xs : List V} {rs : List (List V)} (F : Flow H f c) (h : H a = some (.lst xs)) (R : Rows H xs rs) : a ≠ f := by
  obtain ⟨ns, i, r, st, h1, _⟩ := F.ex
  refine ne_of h h1 fun e => ?_
  have e := HO.lst.inj e
  subst e
  obtain ⟨t, r', e1, _⟩ := R.at (i := 1) (x := .int i) rfl
  cases e1
theorem MdAt.same {H H' : Hp} {d : Addr} {m : Md} (M : MdAt H d m) (s : Same H H') : MdAt H' d m := by
  obtain ⟨o, w, b, ws, bs, h1, h2, h3, h4, h5, h6, h7⟩ := M.ex
  exact ⟨o, w, b, ws, bs, s _ _ h1, s _ _ h2, s _ _ h3, h4.keep (Kt.of s), s _ _ h5, h6.keep (Kt.of s), h7⟩
theorem MdAt.sb {H H' : Hp} {f c d : Addr} {m : Md} (M : MdAt H d m) (F : Flow H f c) (s : Sb f H H') : MdAt H' d m := by
  obtain ⟨o, w, b, ws, bs, h1, h2, h3, h4, h5, h6, h7⟩ := M.ex
  obtain ⟨xs, hf⟩ := F.lst
  have k := s.kt hf
  exact ⟨o, w, b, ws, bs, s _ _ h1 (ne_of h1 hf (by intro z; cases z)), s _ _ h2 (strs_flow F h2), s _ _ h3 (rows_flow F h3 h4), h4.keep k, s _ _ h5 (rows_flow F h5 h6), h6.keep k, h7⟩
theorem MdX.same {H H' : Hp} {d o w b : Addr} {m : Md} (M : MdX H d o w b m) (s : Same H H') : MdX H' d o w b m := by
  obtain ⟨ws, h1, h2⟩ := M.wd
  obtain ⟨bs, h3, h4⟩ := M.bd
  exact ⟨s _ _ M.dk, s _ _ M.own, ⟨ws, s _ _ h1, h2.keep (Kt.of s)⟩, ⟨bs, s _ _ h3, h4.keep (Kt.of s)⟩, M.now, M.nob, M.nwb⟩
theorem MdX.sb {H H' : Hp} {f c d o w b : Addr} {m : Md} (M : MdX H d o w b m) (F : Flow H f c) (s : Sb f H H') : MdX H' d o w b m := by
  obtain ⟨ws, h1, h2⟩ := M.wd
  obtain ⟨bs, h3, h4⟩ := M.bd
  obtain ⟨xs, hf⟩ := F.lst
  have k := s.kt hf
  exact ⟨s _ _ M.dk (ne_of M.dk hf (by intro z; cases z)), s _ _ M.own (strs_flow F M.own), ⟨ws, s _ _ h1 (rows_flow F h1 h2), h2.keep k⟩, ⟨bs, s _ _ h3 (rows_flow F h3 h4), h4.keep k⟩, M.now, M.nob, M.nwb⟩
/-- a span more -/
theorem MdX.addW {H : Hp} {d o w b t : Addr} {m : Md} {x : Wd} {ws : List V} (M : MdX H d o w b m) (e : H w = some (.lst ws)) (R : Rows H ws (m.wd.map Wd.row)) (ht : H t = some (.tup x.row)) : MdX (upd H w (.lst (ws ++ [.ref t]))) d o w b (m.addS x) := by
  obtain ⟨bs, h3, h4⟩ := M.bd
  have k : Kt H (upd H w (.lst (ws ++ [.ref t]))) := Kt.upd fun xs z => by
    rw [e] at z
    cases z
  refine ⟨?_, ?_, ⟨_, upd_same, ?_⟩, ⟨bs, ?_, h4.keep k⟩, M.now, M.nob, M.nwb⟩
  · rw [upd_ne (ne_of M.dk e (by intro z; cases z))]
    exact M.dk
  · rw [upd_ne M.now]
    exact M.own
  · show Rows _ _ ((m.wd ++ [x]).map Wd.row)
    rw [List.map_append]
    exact (R.keep k).snoc (k _ _ ht)
  · rw [upd_ne M.nwb.symm]
    exact h3
/-- a tie more -/
theorem MdX.addB {H : Hp} {d o w b t : Addr} {m : Md} {x : Bd} {bs : List V} (M : MdX H d o w b m) (e : H b = some (.lst bs)) (R : Rows H bs (m.bd.map Bd.row)) (ht : H t = some (.tup x.row)) : MdX (upd H b (.lst (bs ++ [.ref t]))) d o w b (m.addT x) := by
  obtain ⟨ws, h3, h4⟩ := M.wd
  have k : Kt H (upd H b (.lst (bs ++ [.ref t]))) := Kt.upd fun xs z => by
    rw [e] at z
    cases z
  refine ⟨?_, ?_, ⟨ws, ?_, h4.keep k⟩, ⟨_, upd_same, ?_⟩, M.now, M.nob, M.nwb⟩
  · rw [upd_ne (ne_of M.dk e (by intro z; cases z))]
    exact M.dk
  · rw [upd_ne M.nob]
    exact M.own
  · rw [upd_ne M.nwb]
    exact h3
  · show Rows _ _ ((m.bd ++ [x]).map Bd.row)
    rw [List.map_append]
    exact (R.keep k).snoc (k _ _ ht)
/-- the names that are drawn -/
def pool : List Str := ["a", "bb", "c", "zzzzzzzz", "ab", "x", "late", "by", "q", "tie", "ends", "waits", "k", "ba"]
theorem pool_nd : pool.Nodup := by decide +kernel
theorem pool_ok : (pool.all fun z => decide (1 ≤ z.length) && decide (z.length ≤ 8) && (z.cps.toList.all fun c => decide (c ∈ letters.cps.toList)) && !decide (z = "start")) = true := by decide +kernel
theorem pool_nm {z : Str} (h : z ∈ pool) : Nm z ∧ ¬ z = "start" := by
  have e := List.all_eq_true.mp pool_ok z h
  simp only [Bool.and_eq_true, decide_eq_true_eq, List.all_eq_true, Bool.not_eq_true', decide_eq_false_iff_not] at e
  exact ⟨⟨e.1.1.1, e.1.1.2, e.1.2⟩, e.2⟩
theorem pull_perm {α : Type} : ∀ (r : List α) (v : Nat) (h : v < r.length), (r[v] :: r.eraseIdx v).Perm r
  | [], v, h => absurd h (Nat.not_lt_zero _)
  | a :: r, 0, h => List.Perm.refl _
  | a :: r, v + 1, h => by
    have ih := pull_perm r v (Nat.lt_of_succ_lt_succ h)
    exact (List.Perm.swap a (r[v]'(Nat.lt_of_succ_lt_succ h)) (r.eraseIdx v)).trans (ih.cons a)
theorem erase_map {α β : Type} (g : α → β) : ∀ (r : List α) (v : Nat), (r.map g).eraseIdx v = (r.eraseIdx v).map g
  | [], _ => rfl
  | a :: r, 0 => rfl
  | a :: r, v + 1 => congrArg (g a :: ·) (erase_map g r v)
theorem nd_pull {l r : List Str} {v : Nat} (h : v < r.length) (nd : (l ++ r).Nodup) : ((l ++ [r[v]]) ++ r.eraseIdx v).Nodup := by
  have p : (r[v] :: r.eraseIdx v).Perm r := pull_perm r v h
  rw [List.append_assoc, List.singleton_append]
  exact (p.append_left l).nodup_iff.mpr nd
theorem mem_pull {r : List Str} {v : Nat} {z : Str} (h : v < r.length) : z ∈ r[v] :: r.eraseIdx v ↔ z ∈ r := (pull_perm r v h).mem_iff
section
variable {P : Program} {w : World} {K : PySem.W.Frag} {mg : Str → Option Value} {base : Heap}
/-! ### _law_names -/
def sp_names : Sp := fun vs H Q _ => ∃ (f c : Addr) (n : Int), vs = [.ref f, .int n] ∧ Flow H f c ∧ 0 ≤ n ∧ n ≤ 14 ∧ ∀ (q : Addr) (ns : List Str) (H' : Hp), Sb f H H' → Flow H' f c → H q = none → H' q = some (.lst (ns.map V.str)) → ns.length = n.toNat → ns.Nodup → (∀ z ∈ ns, z ∈ pool) → Q (.ref q) H'
theorem cal__law_names (T : Tp K mg) : Cal P w K mg base 3 "_law_names" sp_names := by
  obtain ⟨fd, F⟩ := f__law_names T
  refine cal_of F (g__law_names T) (b__law_names F) sc__law_names (fun vs H Q E h => ?_) (fun cdv A outer s H vs Q E hr h => ?_)
  · obtain ⟨f, c, n, rfl, _⟩ := h
    rfl
  · obtain ⟨f, c, n, rfl, FL, n0, n1, q⟩ := h
    refine ⟨_, (pss_cons (ps_set (i := 2) sc__law_names.nd rfl (.inl rfl) (pe_lst (pa_cons pe_str (pa_cons pe_str (pa_cons pe_str (pa_cons pe_str (pa_cons pe_str (pa_cons pe_str (pa_cons pe_str (pa_cons pe_str (pa_cons pe_str (pa_cons pe_str (pa_cons pe_str (pa_cons pe_str (pa_cons pe_str (pa_cons pe_str pa_nil))))))))))))))))
      (pss_cons (ps_set (i := 3) sc__law_names.nd rfl (.inl rfl) (pe_lst pa_nil))
      (pss_cons (ps_for PassesOwn.never rfl (pi_range1 rfl (z_range T) (pa_cons (pv 1) pa_nil)) (pg_name (i := 4) sc__law_names.nd rfl (.inl rfl))
        (pss_one (ps_expr (pe_bm PySem.F.plainAttrs_list PySem.F.slot_list_append PySem.F.type_list_append mt_append (pv 3) (pa_cons (pe_bm PySem.F.plainAttrs_list PySem.F.slot_list_pop PySem.F.type_list_pop mt_popAt (pv 2) (pa_cons (C8.pe_c (cal__law_draw T) hr (by decide) rfl (pa_cons (pv 0) (pa_cons (pe_callB call_len_seq (by rfl) (z_len T) bb_len (pa_cons (pv 2) pa_nil)) pa_nil))) pa_nil)) pa_nil)))))
      (pss_one (ps_ret (pv 3)))))), ?_⟩
    refine ⟨by show 14 ≤ sizeLine; decide, fun l nl => ?_⟩
    have s1 := same_upd (o := .lst (pool.map V.str)) nl
    refine ⟨Nat.zero_le _, fun k nk => ?_⟩
    have s2 := same_upd (o := .lst []) nk
    have sa := s1.trans s2
    have nkH : H k = none := s1.free nk
    have nlk : l ≠ k := fun z => by
      rw [← z, upd_same] at nk
      cases nk
    obtain ⟨xs, hf⟩ := FL.lst
    have nlf : l ≠ f := (ne_of_none hf nl).symm
    have nkf : k ≠ f := (ne_of_none hf nkH).symm
    obtain ⟨ys, hc⟩ := FL.cells
    have ncl : c ≠ l := ne_of_none hc nl
    have nck : c ≠ k := ne_of_none hc nkH
    refine ⟨_, rfl, n, rfl, by omega, by omega, ?_⟩
    refine for_range (lo := 0) (n := n.toNat) (fun i σ H1 => ∃ (y : Option V) (ns rest : List Str), σ = [some (.ref f), some (.int n), some (.ref l), some (.ref k), y] ∧ Sb f H H1 ∧ Flow H1 f c ∧ H1 l = some (.lst (rest.map V.str)) ∧ H1 k = some (.lst (ns.map V.str)) ∧
      ns.length = i ∧ rest.length + i = 14 ∧ (ns ++ rest).Nodup ∧ ∀ z ∈ ns ++ rest, z ∈ pool) ?_ ?_ ?_
    · exact ⟨none, [], pool, rfl, Sb.of sa, FL.same sa, s2 _ _ upd_same, upd_same, rfl, rfl, pool_nd, fun z h => h⟩
    · rintro i σ H1 hi ⟨y, ns, rest, rfl, sb, F1, hl1, hk1, el, er, nd, hp⟩
      have hlen : (rest.map V.str).length = 14 - i := by
        rw [List.length_map]
        omega
      refine ⟨_, rfl, .inl ⟨rfl, _, .inl (.inl hk1)⟩, _, rfl, .inl ⟨rfl, _, .inl (.inl hl1)⟩, _, rfl, _, rfl, l, _, rfl, .inl (.inl (.inl hl1)), f, c, _, rfl, F1, by omega, by omega, fun v H2 v0 v1 sb2 F2 => ?_⟩
      have hv : v.toNat < rest.length := by
        rw [hlen] at v1
        omega
      have hl2 := sb2 _ _ hl1 nlf
      have hk2 := sb2 _ _ hk1 nkf
      refine ⟨l, _, v, v.toNat, .str rest[v.toNat], rfl, rfl, hl2, by omega, by omega, ?_, ?_, k, _, _, rfl, rfl, (by rw [upd_ne nlk.symm]; exact hk2), ?_, ?_⟩
      · unfold seqIndex?
        rw [if_neg (show ¬ v < 0 by omega), if_pos (by simp only [Bool.and_eq_true, decide_eq_true_eq]; omega)]
      · rw [List.getElem?_map, List.getElem?_eq_getElem hv]
        rfl
      · rw [List.length_map]
        exact small1000 (by omega)
      · refine ⟨_, ns ++ [rest[v.toNat]], rest.eraseIdx v.toNat, rfl, ?_, ?_, ?_, ?_, ?_, ?_, nd_pull hv nd, ?_⟩
        · refine fun b o e nb => ?_
          have e1 := sb2 _ _ (sb _ _ e nb) nb
          rw [upd_ne (ne_of_none e nkH), upd_ne (ne_of_none e nl)]
          exact e1
        · exact (F2.upd nlf.symm ncl).upd nkf.symm nck
        · rw [upd_ne nlk, upd_same, erase_map]
        · rw [upd_same, List.map_append]
          rfl
        · rw [List.length_append, el]
          rfl
        · rw [List.length_eraseIdx_of_lt hv]
          omega
        · intro z hz
          refine hp z ?_
          rw [List.append_assoc, List.singleton_append] at hz
          rcases List.mem_append.mp hz with h | h
          · exact List.mem_append.mpr (.inl h)
          · exact List.mem_append.mpr (.inr ((mem_pull hv).mp h))
    · rintro σ H1 ⟨y, ns, rest, rfl, sb, F1, hl1, hk1, el, er, nd, hp⟩
      exact ⟨_, rfl, q k ns H1 sb F1 nkH hk1 el (List.nodup_append.mp nd).1 fun z hz => hp z (List.mem_append.mpr (.inl hz))⟩
end
end Tw

set_option maxHeartbeats 4000000
namespace Tw
open PySem PySem.Spec PyProof.Rows L2
section
variable {P : Program} {w : World} {K : PySem.W.Frag} {mg : Str → Option Value} {base : Heap}
/-! ### _law_model -/
def sp_model : Sp := fun vs H Q _ => ∃ l : Int, vs = [.int l] ∧ ∀ (d o u b : Addr) (H' : Hp), Same H H' → H d = none → H o = none → H u = none → H b = none → MdX H' d o u b ⟨l, [], [], []⟩ → Q (.ref d) H'
theorem cal__law_model (T : Tp K mg) : Cal P w K mg base 2 "_law_model" sp_model := by
  obtain ⟨fd, F⟩ := f__law_model T
  refine cal_of F (g__law_model T) (b__law_model F) sc__law_model (fun vs H Q E h => ?_) (fun cdv A outer s H vs Q E hr h => ?_)
  · obtain ⟨l, rfl, _⟩ := h
    rfl
  · obtain ⟨l, rfl, q⟩ := h
    refine ⟨_, (pss_one (ps_ret (pe_disp (pps_cons pe_str (pv 0) (pps_cons pe_str (pe_lst pa_nil) (pps_cons pe_str (pe_lst pa_nil) (pps_cons pe_str (pe_lst pa_nil) pps_nil)))) (by rfl) (by rfl) (fun z => by cases z) (by decide)))), ?_⟩
    refine fun d nd => ⟨_, rfl, Nat.zero_le _, fun o no => ⟨Nat.zero_le _, fun u nu => ⟨Nat.zero_le _, fun b nb => ?_⟩⟩⟩
    have s0 := same_upd (o := .dK []) nd
    have s1 := same_upd (o := .lst []) no
    have s2 := same_upd (o := .lst []) nu
    have s3 := same_upd (o := .lst []) nb
    have ed := s3 _ _ (s2 _ _ (s1 _ _ (upd_same (H := H) (a := d) (o := .dK []))))
    have eo := s3 _ _ (s2 _ _ (upd_same (H := upd H d (.dK [])) (a := o) (o := .lst [])))
    have eu := s3 _ _ (upd_same (H := upd (upd H d (.dK [])) o (.lst [])) (a := u) (o := .lst []))
    have eb := upd_same (H := upd (upd (upd H d (.dK [])) o (.lst [])) u (.lst [])) (a := b) (o := .lst [])
    have nod : o ≠ d := (ne_of ed eo (by intro z; cases z)).symm
    have nud : u ≠ d := (ne_of ed eu (by intro z; cases z)).symm
    have nbd : b ≠ d := (ne_of ed eb (by intro z; cases z)).symm
    have nou : o ≠ u := ne_of_none (s1 _ _ upd_same |> fun _ => upd_same) nu
    have nob : o ≠ b := ne_of_none (s2 _ _ upd_same) nb
    have nub : u ≠ b := ne_of_none upd_same nb
    refine ⟨ed, [(kBy, .int l), (kOwn, .ref o), (kWd, .ref u), (kBd, .ref b)], rfl, (by show 4 ≤ 15; decide), ?_⟩
    rw [mk_merge]
    refine q d o u b _ (fun x y e => ?_) nd (s0.free no) ((s0.trans s1).free nu) (((s0.trans s1).trans s2).free nb) ⟨upd_same, by rw [upd_ne nod]; exact eo, ⟨[], by rw [upd_ne nud]; exact eu, .nil⟩, ⟨[], by rw [upd_ne nbd]; exact eb, .nil⟩, nou, nob, nub⟩
    rw [upd_ne (ne_of_none e nd)]
    exact s3 _ _ (s2 _ _ (s1 _ _ (s0 _ _ e)))
/-! ### _law_points -/
def sp_lpoints : Sp := fun vs H Q _ => ∃ (d : Addr) (m : Md), vs = [.ref d] ∧ MdAt H d m ∧ m.own.length ≤ 14 ∧ m.wd.length ≤ 14 ∧ ∀ (q : Addr) (H' : Hp), Same H H' → H q = none → H' q = some (.lst (m.pts.map V.str)) → Q (.ref q) H'
theorem cal__law_points (T : Tp K mg) : Cal P w K mg base 2 "_law_points" sp_lpoints := by
  obtain ⟨fd, F⟩ := f__law_points T
  refine cal_of F (g__law_points T) (b__law_points F) sc__law_points (fun vs H Q E h => ?_) (fun cdv A outer s H vs Q E hr h => ?_)
  · obtain ⟨d, m, rfl, _⟩ := h
    rfl
  · obtain ⟨d, m, rfl, M, l1, l2, q⟩ := h
    have hu := hu_of hr
    obtain ⟨o, u, b, ws, bs, h1, h2, h3, h4, h5, h6, h7⟩ := M.ex
    have hw : ws.length = m.wd.length := by rw [h4.len, List.length_map]
    refine ⟨_, (pss_one (ps_ret (pe_op op_cat (pe_op op_cat (pe_lst (pa_cons pe_str pa_nil)) (pe_dget hu (pv 0) pe_str (fun _ _ => rfl))) (pe_lc (own := [("_law_wind_here", 1)]) (g := gName 1) (tt := tYes) rfl sc__law_points.nd (pi_list (pe_dget hu (pv 0) pe_str (fun _ _ => rfl))) (blkOk_by (N := N__law_points) (sc := defScope s__law_points) (by decide +kernel)) (fun _ _ _ _ _ => (pg_name (i := 1) sc__law_points.nd rfl (.inl rfl))) (fun _ _ _ _ _ => pts_nil) (fun _ _ _ _ _ => (pe_ix (ix_tupK (K := K) rfl) (pv 1) pe_int (fun _ _ => rfl))))))), ?_⟩
    refine ⟨by show 1 ≤ sizeLine; decide, fun l nl => ?_⟩
    have s1 := same_upd (o := .lst [.str "start"]) nl
    refine ⟨_, rfl, d, _, rfl, mk_own (s1 _ _ h1), l, o, _, _, rfl, rfl, upd_same, s1 _ _ h2, ?_, fun r nr => ?_⟩
    · rw [List.length_map]
      exact Nat.le_of_lt (small1000 (by show 1 + _ ≤ 1000; omega))
    · have s2 := same_upd (o := .lst ([.str "start"] ++ m.own.map V.str)) nr
      have sa := s1.trans s2
      refine ⟨_, rfl, d, _, rfl, mk_wd (sa _ _ h1), u, rfl, ⟨_, .inl (.inl (sa _ _ h3))⟩, fun D nD => ?_⟩
      have nDH : H D = none := sa.free nD
      refine lc_list (K := K) (a := u) (xs := ws) (fun i H1 => Same (upd (upd H l (.lst [.str "start"])) r (.lst ([.str "start"] ++ m.own.map V.str))) H1 ∧ H1 D = some (.lst (((m.wd.map (·.en)).take i).map V.str)))
        ⟨same_upd nD, upd_same⟩ (fun i H1 _ ⟨s3, _⟩ => .inl (.inl (s3 _ _ (sa _ _ h3)))) ?_ ?_
      · rintro i x H1 hx ⟨s3, d1⟩
        obtain ⟨t, r', rfl, hr', ht⟩ := h4.at hx
        rw [List.getElem?_map] at hr'
        cases e : m.wd[i]? with
        | none =>
          rw [e] at hr'
          cases hr'
        | some y =>
          rw [e] at hr'
          cases hr'
          have hi : i < m.wd.length := (List.getElem?_eq_some_iff.mp e).1
          refine ⟨rfl, yes_i (iteT ⟨_, rfl, t, _, 0, _, rfl, rfl, .inl (.inl (s3 _ _ (sa _ _ ht))), atI_nat (j := 0) rfl, _, d1, ?_, ?_, ?_⟩)⟩
          · rw [List.length_map, List.length_take]
            exact small1000 (by omega)
          · exact same_put s3 nD
          · rw [upd_same, List.take_add_one, List.getElem?_map, e, List.map_append]
            rfl
      · rintro H1 ⟨s3, d1⟩
        have en : (m.wd.map (·.en)).take ws.length = m.wd.map (·.en) := List.take_of_length_le (by rw [List.length_map]; omega)
        rw [en] at d1
        refine ⟨r, D, _, _, rfl, rfl, s3 _ _ upd_same, d1, ?_, fun x nx => ?_⟩
        · rw [List.length_append, List.length_map, List.length_map, List.length_map]
          exact Nat.le_of_lt (small1000 (by show 1 + _ + _ ≤ 1000; omega))
        · have s4 := same_upd (o := .lst ([.str "start"] ++ m.own.map V.str ++ (m.wd.map (·.en)).map V.str)) nx
          have sb := sa.trans s3
          refine q x _ (sb.trans s4) (sb.free nx) ?_
          rw [upd_same]
          unfold Md.pts
          rw [List.map_cons, List.map_append]
          rfl
/-! ### _law_wind -/
structure WdOk (own : List Str) (x : Wd) : Prop where
  bg : x.bg = "start" ∨ x.bg ∈ own
  lo : 1 ≤ x.lo
  hi : x.lo ≤ x.hi
  top : x.hi ≤ 1000
  la : ∀ i, x.la = some i → 0 ≤ i ∧ i ≤ 1000
def sp_wind : Sp := fun vs H Q _ => ∃ (f c o : Addr) (z : Str) (own : List Str) (far : Int), vs = [.ref f, .str z, .ref o, .int far] ∧ Flow H f c ∧ H o = some (.lst (own.map V.str)) ∧ own.length ≤ 14 ∧ 1 ≤ far ∧ far ≤ 500 ∧
  ∀ (t : Addr) (x : Wd) (H' : Hp), Sb f H H' → Flow H' f c → H t = none → H' t = some (.tup x.row) → x.en = z → WdOk own x → (x.lo ≤ far ∧ x.hi < 2 * far ∧ ∀ i, x.la = some i → i ≤ far) → Q (.ref t) H'
theorem cal__law_wind (T : Tp K mg) : Cal P w K mg base 4 "_law_wind" sp_wind := by
  obtain ⟨fd, F⟩ := f__law_wind T
  refine cal_of F (g__law_wind T) (b__law_wind F) sc__law_wind (fun vs H Q E h => ?_) (fun cdv A outer s H vs Q E hr h => ?_)
  · obtain ⟨f, c, o, z, own, far, rfl, _⟩ := h
    rfl
  · obtain ⟨f, c, o, z, own, far, rfl, FL, ho, hl, f0, f1, q⟩ := h
    refine ⟨_, (pss_cons (ps_set (i := 4) sc__law_wind.nd rfl (.inl rfl) (pe_op op_add pe_int (C8.pe_c (cal__law_draw T) hr (by decide) rfl (pa_cons (pv 0) (pa_cons (pv 3) pa_nil)))))
      (pss_cons (ps_set (i := 5) sc__law_wind.nd rfl (.inl rfl) (pe_op op_add (pv 4) (C8.pe_c (cal__law_draw T) hr (by decide) rfl (pa_cons (pv 0) (pa_cons (pv 3) pa_nil)))))
      (pss_cons (ps_set (i := 6) sc__law_wind.nd rfl (.inl rfl) (pe_ix ix_list (pe_lst (pa_cons pe_int (pa_cons pe_int (pa_cons pe_int (pa_cons (pe_op op_add pe_int (C8.pe_c (cal__law_draw T) hr (by decide) rfl (pa_cons (pv 0) (pa_cons (pv 3) pa_nil)))) (pa_cons pe_non pa_nil)))))) (C8.pe_c (cal__law_draw T) hr (by decide) rfl (pa_cons (pv 0) (pa_cons pe_int pa_nil))) (fun _ _ => rfl)))
      (pss_one (ps_ret (pe_tup (pa_cons (pv 1) (pa_cons (C8.pe_c (cal__law_pick T) hr (by decide) rfl (pa_cons (pv 0) (pa_cons (pe_op op_cat (pe_lst (pa_cons pe_str pa_nil)) (pv 2)) pa_nil))) (pa_cons (pv 4) (pa_cons (pv 5) (pa_cons (pv 6) pa_nil))))))))))), ?_⟩
    have nof := strs_flow FL ho
    obtain ⟨zs, hf⟩ := FL.lst
    obtain ⟨ys, hc⟩ := FL.cells
    refine ⟨_, rfl, _, rfl, f, c, far, rfl, FL, by omega, by omega, fun v1 H1 a1 b1 sb1 F1 => ⟨1, v1, rfl, rfl, ?_⟩⟩
    refine ⟨_, rfl, _, rfl, _, rfl, f, c, far, rfl, F1, by omega, by omega, fun v2 H2 a2 b2 sb2 F2 => ⟨_, _, rfl, rfl, ?_⟩⟩
    refine ⟨_, rfl, _, rfl, f, c, far, rfl, F2, by omega, by omega, fun v3 H3 a3 b3 sb3 F3 => ⟨1, v3, rfl, rfl, (by show 5 ≤ sizeLine; decide), fun l nl => ?_⟩⟩
    obtain ⟨zs3, hf3⟩ := F3.lst
    obtain ⟨ys3, hc3⟩ := F3.cells
    have sl := same_upd (o := .lst [.int 0, .int 0, .int 0, .int (1 + v3), .non]) nl
    have nlf : l ≠ f := (ne_of_none hf3 nl).symm
    refine ⟨_, rfl, f, c, 5, rfl, F3.same sl, by decide, by decide, fun v4 H4 a4 b4 sb4 F4 => ?_⟩
    have sb : Sb f H H4 := ((sb1.trans sb2).trans (sb3.trans (Sb.of sl))).trans sb4
    have hl4 := sb4 _ _ (upd_same (H := H3) (a := l) (o := .lst [.int 0, .int 0, .int 0, .int (1 + v3), .non])) nlf
    obtain ⟨la, ela, hla⟩ : ∃ la : Option Int, ([.int 0, .int 0, .int 0, .int (1 + v3), .non] : List V)[v4.toNat]? = some (oV la) ∧ ∀ i, la = some i → 0 ≤ i ∧ i ≤ far := by
      have hv : v4.toNat < 5 := by omega
      match v4.toNat, hv with
      | 0, _ => exact ⟨some 0, rfl, fun i e => by cases e; omega⟩
      | 1, _ => exact ⟨some 0, rfl, fun i e => by cases e; omega⟩
      | 2, _ => exact ⟨some 0, rfl, fun i e => by cases e; omega⟩
      | 3, _ => exact ⟨some (1 + v3), rfl, fun i e => by cases e; omega⟩
      | 4, _ => exact ⟨none, rfl, fun i e => by cases e⟩
    refine ⟨l, _, v4, oV la, rfl, rfl, .inl (.inl hl4), at_of (j := v4.toNat) (by omega) ela, ?_⟩
    -- the tuple
    have ho4 := sb _ _ ho nof
    refine ⟨_, rfl, _, rfl, (by show 1 ≤ sizeLine; decide), fun p np => ?_⟩
    have sp1 := same_upd (o := .lst [.str "start"]) np
    refine ⟨_, rfl, p, o, _, _, rfl, rfl, upd_same, sp1 _ _ ho4, ?_, fun r nr => ?_⟩
    · rw [List.length_map]
      exact Nat.le_of_lt (small1000 (by show 1 + _ ≤ 1000; omega))
    · have sp2 := same_upd (o := .lst ([.str "start"] ++ own.map V.str)) nr
      have F5 := (F4.same sp1).same sp2
      have er : (upd (upd H4 p (.lst [.str "start"])) r (.lst ([.str "start"] ++ own.map V.str))) r = some (.lst ((("start" : Str) :: own).map V.str)) := upd_same
      refine ⟨f, c, r, _, rfl, F5, er, strs_flow F5 er, by rw [List.length_map]; exact Nat.succ_pos _, by rw [List.length_map]; show own.length + 1 ≤ 1000; omega, fun v H6 hv sb6 F6 => ?_⟩
      obtain ⟨g, hg, rfl⟩ := List.mem_map.mp hv
      refine ⟨_, rfl, _, rfl, _, rfl, (by show 5 ≤ sizeLine; decide), fun t nt => ?_⟩
      have sbA : Sb f H H6 := (sb.trans (Sb.of (sp1.trans sp2))).trans sb6
      have st := same_upd (o := .tup (Wd.row ⟨z, g, 1 + v1, 1 + v1 + v2, la⟩)) nt
      have ntH : H t = none := by
        cases e : H t with
        | none => rfl
        | some y =>
          have ntf : t ≠ f := fun z => by
            obtain ⟨zs6, hf6⟩ := F6.lst
            rw [z, hf6] at nt
            cases nt
          rw [sbA _ _ e ntf] at nt
          cases nt
      exact q t ⟨z, g, 1 + v1, 1 + v1 + v2, la⟩ _ (sbA.trans (Sb.of st)) (F6.same st) ntH upd_same rfl ⟨by
        rcases List.mem_cons.mp hg with e | e
        · exact .inl e
        · exact .inr e, by show 1 ≤ 1 + v1; omega, by show 1 + v1 ≤ 1 + v1 + v2; omega, by show 1 + v1 + v2 ≤ 1000; omega, fun i e => by
          have := hla i e
          omega⟩ ⟨by show 1 + v1 ≤ far; omega, by show 1 + v1 + v2 < 2 * far; omega, fun i e => (hla i e).2⟩
/-! ### _law_bond -/
structure BdOk (pts : List Str) (x : Bd) : Prop where
  one : x.one ∈ pts
  oth : x.oth ∈ pts
  ne : ¬ x.one = x.oth
  b : BOk x.bot x.top
def sp_bond : Sp := fun vs H Q _ => ∃ (f c o : Addr) (pts : List Str) (far : Int), vs = [.ref f, .ref o, .int far] ∧ Flow H f c ∧ H o = some (.lst (pts.map V.str)) ∧ 2 ≤ pts.length ∧ pts.length ≤ 100 ∧ pts.Nodup ∧ 1 ≤ far ∧ far ≤ 250 ∧
  ∀ (t : Addr) (x : Bd) (H' : Hp), Sb f H H' → Flow H' f c → H t = none → H' t = some (.tup x.row) → BdOk pts x → Q (.ref t) H'
theorem bok_lo {a : Int} (h1 : -1000 ≤ a) (h2 : a ≤ 1000) : BOk (some a) none := by
  refine ⟨fun z => (nomatch z.1), fun x e => ?_, fun x e => (nomatch e), fun x y _ e => (nomatch e)⟩
  cases e
  exact ⟨h1, h2⟩
theorem bok_hi {a : Int} (h1 : -1000 ≤ a) (h2 : a ≤ 1000) : BOk none (some a) := by
  refine ⟨fun z => (nomatch z.2), fun x e => (nomatch e), fun x e => ?_, fun x y e _ => (nomatch e)⟩
  cases e
  exact ⟨h1, h2⟩
theorem bok_two {a b : Int} (h1 : -1000 ≤ a) (h2 : a ≤ 1000) (h3 : -1000 ≤ b) (h4 : b ≤ 1000) (h5 : a ≤ b) : BOk (some a) (some b) := by
  refine ⟨fun z => (nomatch z.1), fun x e => ?_, fun x e => ?_, fun x y e e2 => ?_⟩
  · cases e
    exact ⟨h1, h2⟩
  · cases e
    exact ⟨h3, h4⟩
  · cases e
    cases e2
    exact h5
theorem sb_free {f c t : Addr} {H H' : Hp} (sb : Sb f H H') (F : Flow H' f c) (nt : H' t = none) : H t = none := by
  cases e : H t with
  | none => rfl
  | some y =>
    have ntf : t ≠ f := fun z => by
      obtain ⟨zs, hf⟩ := F.lst
      rw [z, hf] at nt
      cases nt
    rw [sb _ _ e ntf] at nt
    cases nt
theorem cal__law_bond (T : Tp K mg) : Cal P w K mg base 4 "_law_bond" sp_bond := by
  obtain ⟨fd, F⟩ := f__law_bond T
  refine cal_of F (g__law_bond T) (b__law_bond F) sc__law_bond (fun vs H Q E h => ?_) (fun cdv A outer s H vs Q E hr h => ?_)
  · obtain ⟨f, c, o, pts, far, rfl, _⟩ := h
    rfl
  · obtain ⟨f, c, o, pts, far, rfl, FL, ho, p2, p3, nd, f0, f1, q⟩ := h
    refine ⟨_, (pss_cons (ps_set (i := 3) sc__law_bond.nd rfl (.inl rfl) (pe_callTy call_list_of (by rfl) (z_list T) bb_list (pa_cons (pv 1) pa_nil)))
      (pss_cons (ps_set (i := 4) sc__law_bond.nd rfl (.inl rfl) (pe_bm PySem.F.plainAttrs_list PySem.F.slot_list_pop PySem.F.type_list_pop mt_popAt (pv 3) (pa_cons (C8.pe_c (cal__law_draw T) hr (by decide) rfl (pa_cons (pv 0) (pa_cons (pe_callB call_len_seq (by rfl) (z_len T) bb_len (pa_cons (pv 3) pa_nil)) pa_nil))) pa_nil)))
      (pss_cons (ps_set (i := 5) sc__law_bond.nd rfl (.inl rfl) (C8.pe_c (cal__law_pick T) hr (by decide) rfl (pa_cons (pv 0) (pa_cons (pv 3) pa_nil))))
      (pss_cons (ps_set (i := 6) sc__law_bond.nd rfl (.inl rfl) (pe_op op_sub (C8.pe_c (cal__law_draw T) hr (by decide) rfl (pa_cons (pv 0) (pa_cons (pe_op op_add (pe_op op_mul pe_int (pv 2)) pe_int) pa_nil))) (pv 2)))
      (pss_cons (ps_set (i := 7) sc__law_bond.nd rfl (.inl rfl) (pe_op op_add (pv 6) (C8.pe_c (cal__law_draw T) hr (by decide) rfl (pa_cons (pv 0) (pa_cons (pe_op op_add (pe_op op_mul pe_int (pv 2)) pe_int) pa_nil)))))
      (pss_cons (ps_set (i := 8) sc__law_bond.nd rfl (.inl rfl) (C8.pe_c (cal__law_draw T) hr (by decide) rfl (pa_cons (pv 0) (pa_cons pe_int pa_nil))))
      (pss_cons (ps_if (pt_cmpR op_eq (pv 8) pe_int (nomark _)) (pss_one (ps_ret (pe_tup (pa_cons (pv 4) (pa_cons (pv 5) (pa_cons (pv 6) (pa_cons pe_non pa_nil))))))) pss_nil)
      (pss_cons (ps_if (pt_cmpR op_eq (pv 8) pe_int (nomark _)) (pss_one (ps_ret (pe_tup (pa_cons (pv 4) (pa_cons (pv 5) (pa_cons pe_non (pa_cons (pv 7) pa_nil))))))) pss_nil)
      (pss_one (ps_ret (pe_tup (pa_cons (pv 4) (pa_cons (pv 5) (pa_cons (pv 6) (pa_cons (pv 7) pa_nil))))))))))))))), ?_⟩
    refine ⟨_, rfl, o, _, rfl, .inl (.inl (.inl ho)), fun l nl => ?_⟩
    have s1 := same_upd (o := .lst (pts.map V.str)) nl
    have F1 := FL.same s1
    obtain ⟨zs, hf⟩ := FL.lst
    obtain ⟨ys, hc⟩ := FL.cells
    have nlf : l ≠ f := (ne_of_none hf nl).symm
    have ncl : c ≠ l := ne_of_none hc nl
    refine ⟨_, rfl, .inl ⟨rfl, _, .inl (.inl upd_same)⟩, _, rfl, _, rfl, l, _, rfl, .inl (.inl (.inl upd_same)), f, c, _, rfl, F1, by rw [List.length_map]; omega, by rw [List.length_map]; omega, fun v H2 v0 v1 sb2 F2 => ?_⟩
    rw [List.length_map] at v1
    have hv : v.toNat < pts.length := by omega
    have hl2 := sb2 _ _ (upd_same (H := H) (a := l) (o := .lst (pts.map V.str))) nlf
    refine ⟨l, _, v, v.toNat, .str pts[v.toNat], rfl, rfl, hl2, by omega, by omega, ?_, ?_, ?_⟩
    · unfold seqIndex?
      rw [if_neg (show ¬ v < 0 by omega), if_pos (by simp only [Bool.and_eq_true, decide_eq_true_eq, List.length_map]; omega)]
    · rw [List.getElem?_map, List.getElem?_eq_getElem hv]
      rfl
    · have F3 : Flow (upd H2 l (.lst ((pts.map V.str).eraseIdx v.toNat))) f c := F2.upd nlf.symm ncl
      have hl3 : (upd H2 l (.lst ((pts.map V.str).eraseIdx v.toNat))) l = some (.lst ((pts.eraseIdx v.toNat).map V.str)) := by rw [upd_same, erase_map]
      have hlen : ((pts.eraseIdx v.toNat).map V.str).length = pts.length - 1 := by rw [List.length_map, List.length_eraseIdx_of_lt hv]
      have sb3 : Sb f H (upd H2 l (.lst ((pts.map V.str).eraseIdx v.toNat))) := fun b x e nb => by
        rw [upd_ne (ne_of_none e nl)]
        exact sb2 _ _ (s1 _ _ e) nb
      refine ⟨_, rfl, _, rfl, f, c, l, _, rfl, F3, hl3, nlf, by omega, by omega, fun y H4 hy sb4 F4 => ?_⟩
      obtain ⟨g, hg, rfl⟩ := List.mem_map.mp hy
      have nd2 : (pts[v.toNat] :: pts.eraseIdx v.toNat).Nodup := (pull_perm pts v.toNat hv).nodup_iff.mpr nd
      have hgp : g ∈ pts := (pull_perm pts v.toNat hv).mem_iff.mp (List.mem_cons_of_mem _ hg)
      have hne : ¬ pts[v.toNat] = g := fun e => (List.nodup_cons.mp nd2).1 (e ▸ hg)
      have sbA := sb3.trans sb4
      refine ⟨_, rfl, _, rfl, 3, far, rfl, rfl, .inl ⟨by decide, by decide⟩, _, 1, rfl, rfl, f, c, _, rfl, F4, by omega, by omega, fun v5 H5 a5 b5 sb5 F5 => ⟨_, rfl, _, _, rfl, rfl, ?_⟩⟩
      refine ⟨_, rfl, _, rfl, _, rfl, 2, far, rfl, rfl, .inl ⟨by decide, by decide⟩, _, 1, rfl, rfl, f, c, _, rfl, F5, by omega, by omega, fun v6 H6 a6 b6 sb6 F6 => ⟨_, _, rfl, rfl, ?_⟩⟩
      refine ⟨_, rfl, f, c, 5, rfl, F6, by decide, by decide, fun v7 H7 a7 b7 sb7 F7 => ?_⟩
      have sbB := ((sbA.trans sb5).trans sb6).trans sb7
      have hp : pts[v.toNat] ∈ pts := List.getElem_mem hv
      have done : ∀ (t : Addr) (bo to : Option Int), BOk bo to → H7 t = none → Q (.ref t) (upd H7 t (.tup [.str pts[v.toNat], .str g, oV bo, oV to])) := fun t bo to hb nt =>
        q t ⟨pts[v.toNat], g, bo, to⟩ _ (sbB.trans (Sb.of (same_upd nt))) (F7.same (same_upd nt)) (sb_free sbB F7 nt) upd_same ⟨hp, hgp, hne, hb⟩
      refine ⟨_, rfl, rfl, _, rfl, ite2 (fun e => ?_) (fun e => ?_)⟩
      · refine ⟨_, rfl, _, rfl, _, rfl, (by show 4 ≤ sizeLine; decide), fun t nt => done t (some (v5 - far)) none (bok_lo (by omega) (by omega)) nt⟩
      · refine ⟨_, rfl, rfl, _, rfl, ite2 (fun e => ?_) (fun e => ?_)⟩
        · refine ⟨_, rfl, _, rfl, _, rfl, (by show 4 ≤ sizeLine; decide), fun t nt => done t none (some (v5 - far + v6)) (bok_hi (by omega) (by omega)) nt⟩
        · refine ⟨_, rfl, _, rfl, _, rfl, _, rfl, (by show 4 ≤ sizeLine; decide), fun t nt => done t (some (v5 - far)) (some (v5 - far + v6)) (bok_two (by omega) (by omega) (by omega) (by omega) (by omega)) nt⟩
end
end Tw

set_option maxHeartbeats 4000000
namespace Tw
open PySem PySem.Spec PyProof.Rows L2
theorem cut_pre (ns : List Str) {a : Int} (h : 0 ≤ a) : cutV (ns.map V.str) none (some a) = (ns.take a.toNat).map V.str := by
  obtain ⟨k, rfl⟩ : ∃ k : Nat, a = k := ⟨a.toNat, by omega⟩
  unfold cutV
  rw [HT.sIx_none, HT.sIx_nat, List.drop_zero, Nat.sub_zero, Int.toNat_natCast, List.map_take]
  by_cases hk : k ≤ (ns.map V.str).length
  · rw [Nat.min_eq_left hk]
  · have past := Nat.le_of_lt (Nat.not_le.mp hk)
    rw [Nat.min_eq_right past, List.take_length]
    exact (List.take_of_length_le past).symm
theorem cut_suf (ns : List Str) {a : Int} (h : 0 ≤ a) : cutV (ns.map V.str) (some a) none = (ns.drop a.toNat).map V.str := by
  obtain ⟨k, rfl⟩ : ∃ k : Nat, a = k := ⟨a.toNat, by omega⟩
  unfold cutV
  rw [HT.sIx_none, HT.sIx_nat, Int.toNat_natCast, List.map_drop]
  by_cases hk : k ≤ (ns.map V.str).length
  · rw [Nat.min_eq_left hk]
    exact List.take_of_length_le (by rw [List.length_drop]; exact Nat.le_refl _)
  · have past := Nat.le_of_lt (Nat.not_le.mp hk)
    rw [Nat.min_eq_right past, List.drop_length, List.take_nil]
    exact (List.drop_of_length_le past).symm
/-- what a drawn picture keeps -/
structure MdOk (m : Md) : Prop where
  last : 1 ≤ m.last ∧ m.last ≤ 1000
  nd : (m.own ++ m.wd.map (·.en)).Nodup
  pool : ∀ z ∈ m.own ++ m.wd.map (·.en), z ∈ pool
  wd : ∀ x ∈ m.wd, WdOk m.own x
  bd : ∀ x ∈ m.bd, BdOk m.pts x
  len : m.own.length ≤ 10 ∧ m.wd.length ≤ 4 ∧ m.bd.length ≤ 40
def Near (far : Int) (x : Wd) : Prop := x.lo ≤ far ∧ x.hi < 2 * far ∧ ∀ i, x.la = some i → i ≤ far
theorem pts_nd {own : List Str} {ends : List Str} (nd : (own ++ ends).Nodup) (hp : ∀ z ∈ own ++ ends, z ∈ pool) : (("start" : Str) :: (own ++ ends)).Nodup :=
  List.nodup_cons.mpr ⟨fun h => (pool_nm (hp _ h)).2 rfl, nd⟩
section
variable {P : Program} {w : World} {K : PySem.W.Frag} {mg : Str → Option Value} {base : Heap}
def sp_drawn : Sp := fun vs H Q _ => ∃ (f c : Addr) (a b e far last : Int), vs = [.ref f, .int a, .int b, .int e, .int far, .int last] ∧ Flow H f c ∧ 1 ≤ a ∧ a ≤ 10 ∧ 0 ≤ b ∧ b ≤ 4 ∧ 0 ≤ e ∧ e ≤ 40 ∧ 1 ≤ far ∧ far ≤ 500 ∧ (e = 0 ∨ far ≤ 250) ∧ 1 ≤ last ∧ last ≤ 1000 ∧
  ∀ (d : Addr) (m : Md) (H' : Hp), Sb f H H' → Flow H' f c → H d = none → MdAt H' d m → MdOk m → m.last = last → m.own.length = a.toNat → m.wd.length = b.toNat → m.bd.length = e.toNat → (∀ x ∈ m.wd, Near far x) → Q (.ref d) H'
theorem cal__law_drawn (T : Tp K mg) : Cal P w K mg base 5 "_law_drawn" sp_drawn := by
  obtain ⟨fd, F⟩ := f__law_drawn T
  refine cal_of F (g__law_drawn T) (b__law_drawn F) sc__law_drawn (fun vs H Q E h => ?_) (fun cdv A outer s H vs Q E hr h => ?_)
  · obtain ⟨f, c, a, b, e, far, last, rfl, _⟩ := h
    rfl
  · obtain ⟨f, c, a, b, e, far, last, rfl, FL, a1, a2, b1, b2, e1, e2, far1, far2, far3, last1, last2, q⟩ := h
    have hu := hu_of hr
    obtain ⟨zs, hf⟩ := FL.lst
    obtain ⟨ys, hc⟩ := FL.cells
    refine ⟨_, (pss_cons (ps_set (i := 6) sc__law_drawn.nd rfl (.inl rfl) (C8.pe_c (cal__law_model T) hr (by decide) rfl (pa_cons (pv 5) pa_nil)))
      (pss_cons (ps_set (i := 7) sc__law_drawn.nd rfl (.inl rfl) (C8.pe_c (cal__law_names T) hr (by decide) rfl (pa_cons (pv 0) (pa_cons (pe_op op_add (pv 1) (pv 2)) pa_nil))))
      (pss_cons (ps_dput hu (pv 6) pe_str (pe_slice sl_list (pv 7) po_none (po_some (pv 1))) rfl)
      (pss_cons (ps_for PassesOwn.never rfl (pi_list (pe_slice sl_list (pv 7) (po_some (pv 1)) po_none)) (pg_name (i := 8) sc__law_drawn.nd rfl (.inl rfl))
        (pss_one (ps_expr (pe_bm PySem.F.plainAttrs_list PySem.F.slot_list_append PySem.F.type_list_append mt_append (pe_dget hu (pv 6) pe_str (fun _ _ => rfl)) (pa_cons (C8.pe_c (cal__law_wind T) hr (by decide) rfl (pa_cons (pv 0) (pa_cons (pv 8) (pa_cons (pe_dget hu (pv 6) pe_str (fun _ _ => rfl)) (pa_cons (pv 4) pa_nil))))) pa_nil)))))
      (pss_cons (ps_for PassesOwn.never rfl (pi_range1 rfl (z_range T) (pa_cons (pv 3) pa_nil)) (pg_name (i := 9) sc__law_drawn.nd rfl (.inl rfl))
        (pss_one (ps_expr (pe_bm PySem.F.plainAttrs_list PySem.F.slot_list_append PySem.F.type_list_append mt_append (pe_dget hu (pv 6) pe_str (fun _ _ => rfl)) (pa_cons (C8.pe_c (cal__law_bond T) hr (by decide) rfl (pa_cons (pv 0) (pa_cons (C8.pe_c (cal__law_points T) hr (by decide) rfl (pa_cons (pv 6) pa_nil)) (pa_cons (pv 4) pa_nil)))) pa_nil)))))
      (pss_one (ps_ret (pv 6)))))))), ?_⟩
    refine ⟨_, rfl, last, rfl, fun d o0 u b' H1 s1 nd no0 nu nb' M1 => ?_⟩
    have F1 := FL.same s1
    refine ⟨_, rfl, _, rfl, _, rfl, _, _, rfl, rfl, f, c, a + b, rfl, F1, by omega, by omega, fun g ns H2 sb2 F2 ng hg len nns hp => ?_⟩
    have sbH2 : Sb f H H2 := (Sb.of s1).trans sb2
    have M2 := M1.sb F1 sb2
    -- m['own'] = names[:own]
    refine ⟨_, rfl, _, rfl, a, rfl, g, _, rfl, .inl (.inl hg), fun o no => ?_⟩
    rw [cut_pre ns (by omega)]
    have s3 := same_upd (o := .lst ((ns.take a.toNat).map V.str)) no
    have M3 := M2.same s3
    have F3 := F2.same s3
    have noH : H o = none := sb_free sbH2 F2 no
    refine ⟨_, rfl, d, _, rfl, DPut.k (k := kOwn) M3.dk (by show 4 < sizeLine; decide), ?_⟩
    rw [mk_putOwn]
    have hdo : ∀ x y, (upd H2 o (.lst ((ns.take a.toNat).map V.str))) x = some y → x ≠ d → (upd (upd H2 o (.lst ((ns.take a.toNat).map V.str))) d (.dK (mk last o u b'))) x = some y := fun x y ex nx => by
      rw [upd_ne nx]
      exact ex
    obtain ⟨ws3, hw3, _⟩ := M2.wd
    obtain ⟨bs3, hb3, _⟩ := M2.bd
    have nod : o ≠ d := (ne_of_none M2.dk no).symm
    have nou : o ≠ u := (ne_of_none hw3 no).symm
    have nob : o ≠ b' := (ne_of_none hb3 no).symm
    have nfd : f ≠ d := ne_of_none hf nd
    have ncd : c ≠ d := ne_of_none hc nd
    have nfu : f ≠ u := ne_of_none hf nu
    have ncu : c ≠ u := ne_of_none hc nu
    have nfb : f ≠ b' := ne_of_none hf nb'
    have ncb : c ≠ b' := ne_of_none hc nb'
    have M4 : MdX (upd (upd H2 o (.lst ((ns.take a.toNat).map V.str))) d (.dK (mk last o u b'))) d o u b' ⟨last, ns.take a.toNat, [], []⟩ := by
      have dd := M3.dk
      refine ⟨upd_same, hdo _ _ upd_same nod, ⟨ws3, hdo _ _ (s3 _ _ hw3) (ne_of (s3 _ _ hw3) dd (by intro z; cases z)), ?_⟩, ⟨bs3, hdo _ _ (s3 _ _ hb3) (ne_of (s3 _ _ hb3) dd (by intro z; cases z)), ?_⟩, nou, nob, M3.nwb⟩
      · obtain ⟨ws, h1, h2⟩ := M2.wd
        rw [hw3] at h1
        cases h1
        have e0 := h2.len
        have e1 : ws3 = [] := List.length_eq_zero_iff.mp e0
        rw [e1]
        exact .nil
      · obtain ⟨ws, h1, h2⟩ := M2.bd
        rw [hb3] at h1
        cases h1
        have e0 := h2.len
        have e1 : bs3 = [] := List.length_eq_zero_iff.mp e0
        rw [e1]
        exact .nil
    have F4 : Flow (upd (upd H2 o (.lst ((ns.take a.toNat).map V.str))) d (.dK (mk last o u b'))) f c := F3.upd nfd ncd
    have sbH4 : Sb f H (upd (upd H2 o (.lst ((ns.take a.toNat).map V.str))) d (.dK (mk last o u b'))) := fun x y ex nx => hdo _ _ (s3 _ _ (sbH2 _ _ ex nx)) (ne_of_none ex nd)
    have hg4 : (upd (upd H2 o (.lst ((ns.take a.toNat).map V.str))) d (.dK (mk last o u b'))) g = some (.lst (ns.map V.str)) := hdo _ _ (s3 _ _ hg) (ne_of (s3 _ _ hg) M3.dk (by intro z; cases z))
    -- for end in names[own:]
    refine ⟨_, rfl, _, rfl, a, rfl, g, _, rfl, .inl (.inl hg4), fun r nr => ?_⟩
    rw [cut_suf ns (by omega)]
    have s5 := same_upd (o := .lst ((ns.drop a.toNat).map V.str)) nr
    have M5 := M4.same s5
    have F5 := F4.same s5
    obtain ⟨ws4, hw4, _⟩ := M4.wd
    have nru : r ≠ u := (ne_of_none hw4 nr).symm
    have elen : (ns.take a.toNat).length = a.toNat := by
      rw [List.length_take]
      omega
    have blen : (ns.drop a.toNat).length = b.toNat := by
      rw [List.length_drop]
      omega
    have sbH5 := sbH4.trans (Sb.of s5)
    have spl : ns.take a.toNat ++ ns.drop a.toNat = ns := List.take_append_drop _ _
    refine ⟨r, rfl, ⟨_, .inl (.inl upd_same)⟩, for_list (K := K) (a := r) (xs := (ns.drop a.toNat).map V.str) (fun i σ H6 => ∃ (y : Option V) (ds : List Wd), σ = [some (.ref f), some (.int a), some (.int b), some (.int e), some (.int far), some (.int last), some (.ref d), some (.ref g), y, none] ∧
        Sb f H H6 ∧ Flow H6 f c ∧ MdX H6 d o u b' ⟨last, ns.take a.toNat, ds, []⟩ ∧ H6 r = some (.lst ((ns.drop a.toNat).map V.str)) ∧ ds.map (·.en) = (ns.drop a.toNat).take i ∧ ∀ x ∈ ds, WdOk (ns.take a.toNat) x ∧ Near far x)
      ⟨none, [], rfl, sbH5, F5, M5, upd_same, rfl, fun x hx => nomatch hx⟩ (fun i σ H6 _ ⟨_, _, _, _, _, _, h, _⟩ => .inl (.inl h)) ?_ ?_⟩
    · rintro i x σ H6 hx ⟨y, ds, rfl, sb6, F6, M6, hr6, eds, hds⟩
      rw [List.getElem?_map] at hx
      cases ez : (ns.drop a.toNat)[i]? with
      | none =>
        rw [ez] at hx
        cases hx
      | some z =>
        rw [ez] at hx
        cases hx
        obtain ⟨ws6, hw6, rw6⟩ := M6.wd
        refine ⟨_, rfl, d, _, rfl, mk_wd M6.dk, .inl ⟨rfl, _, .inl (.inl hw6)⟩, _, rfl, _, rfl, _, rfl, d, _, rfl, mk_own M6.dk, _, rfl, f, c, o, z, _, far, rfl, F6, M6.own, by show (ns.take a.toNat).length ≤ 14; omega, far1, far2, fun t x H7 sb7 F7 nt ht ex ok near => ?_⟩
        have M7 := M6.sb F6 sb7
        obtain ⟨ws7, hw7, rw7⟩ := M7.wd
        refine ⟨u, ws7, _, rfl, rfl, hw7, ?_, ?_⟩
        · rw [rw7.len, List.length_map]
          have hl : ds.length = i := by
            have := congrArg List.length eds
            rw [List.length_map, List.length_take] at this
            have hi : i < (ns.drop a.toNat).length := (List.getElem?_eq_some_iff.mp ez).1
            omega
          have hi : i < (ns.drop a.toNat).length := (List.getElem?_eq_some_iff.mp ez).1
          show ds.length < sizeLine
          exact small1000 (by omega)
        · refine ⟨_, ds ++ [x], rfl, ?_, F7.upd nfu ncu, M7.addW hw7 rw7 ht, ?_, ?_, ?_⟩
          · exact fun p v ep np => by
              rw [upd_ne (ne_of_none ep nu)]
              exact sb7 _ _ (sb6 _ _ ep np) np
          · rw [upd_ne nru]
            exact sb7 _ _ hr6 (strs_flow F6 hr6)
          · rw [List.map_append, eds, List.take_add_one, ez]
            show _ ++ [x.en] = _ ++ [z]
            rw [ex]
          · intro v hv
            rcases List.mem_append.mp hv with h | h
            · exact hds v h
            · have e : v = x := List.mem_singleton.mp h
              rw [e]
              exact ⟨ok, near⟩
    · rintro σ H6 ⟨y, ds, rfl, sb6, F6, M6, hr6, eds, hds⟩
      have eds : ds.map (·.en) = ns.drop a.toNat := by
        rw [eds]
        exact List.take_of_length_le (by rw [List.length_map]; exact Nat.le_refl _)
      have dlen : ds.length = b.toNat := by
        have := congrArg List.length eds
        rw [List.length_map] at this
        omega
      have pnd : (("start" : Str) :: (ns.take a.toNat ++ ds.map (·.en))).Nodup := pts_nd (by rw [eds, spl]; exact nns) (by rw [eds, spl]; exact hp)
      -- the ties
      refine ⟨_, rfl, e, rfl, by omega, by omega, ?_⟩
      refine for_range (lo := 0) (n := e.toNat) (fun i σ H7 => ∃ (y9 : Option V) (es : List Bd), σ = [some (.ref f), some (.int a), some (.int b), some (.int e), some (.int far), some (.int last), some (.ref d), some (.ref g), y, y9] ∧
        Sb f H H7 ∧ Flow H7 f c ∧ MdX H7 d o u b' ⟨last, ns.take a.toNat, ds, es⟩ ∧ es.length = i ∧ ∀ x ∈ es, BdOk (("start" : Str) :: (ns.take a.toNat ++ ds.map (·.en))) x) ⟨none, [], rfl, sb6, F6, M6, rfl, fun x hx => nomatch hx⟩ ?_ ?_
      · rintro i σ H7 hi ⟨y9, es, rfl, sb7, F7, M7, el, hes⟩
        obtain ⟨bs7, hb7, rb7⟩ := M7.bd
        refine ⟨_, rfl, d, _, rfl, mk_bd M7.dk, .inl ⟨rfl, _, .inl (.inl hb7)⟩, _, rfl, _, rfl, d, _, rfl, M7.at, by show (ns.take a.toNat).length ≤ 14; omega, by show ds.length ≤ 14; omega, fun pl H8 s8 npl hpl => ?_⟩
        have F8 := F7.same s8
        refine ⟨_, rfl, f, c, pl, _, far, rfl, F8, hpl, ?_, ?_, pnd, far1, by omega, fun t x H9 sb9 F9 nt ht ok => ?_⟩
        · show 2 ≤ (("start" : Str) :: (ns.take a.toNat ++ ds.map (·.en))).length
          rw [List.length_cons, List.length_append, elen]
          omega
        · show (("start" : Str) :: (ns.take a.toNat ++ ds.map (·.en))).length ≤ 100
          rw [List.length_cons, List.length_append, elen, List.length_map]
          omega
        · have M9 := (M7.same s8).sb F8 sb9
          obtain ⟨bs9, hb9, rb9⟩ := M9.bd
          refine ⟨b', bs9, _, rfl, rfl, hb9, ?_, _, es ++ [x], rfl, ?_, F9.upd nfb ncb, M9.addB hb9 rb9 ht, by rw [List.length_append, el]; rfl, ?_⟩
          · rw [rb9.len, List.length_map]
            show es.length < sizeLine
            exact small1000 (by omega)
          · exact fun p v ep np => by
              rw [upd_ne (ne_of_none ep nb')]
              exact sb9 _ _ (s8 _ _ (sb7 _ _ ep np)) np
          · intro v hv
            rcases List.mem_append.mp hv with h | h
            · exact hes v h
            · have e : v = x := List.mem_singleton.mp h
              rw [e]
              exact ok
      · rintro σ H7 ⟨y9, es, rfl, sb7, F7, M7, el, hes⟩
        refine ⟨_, rfl, q d ⟨last, ns.take a.toNat, ds, es⟩ H7 sb7 F7 nd M7.at ⟨⟨last1, last2⟩, ?_, ?_, fun x hx => (hds x hx).1, hes, ?_⟩ rfl elen dlen el fun x hx => (hds x hx).2⟩
        · show (ns.take a.toNat ++ ds.map (·.en)).Nodup
          rw [eds, spl]
          exact nns
        · show ∀ z ∈ ns.take a.toNat ++ ds.map (·.en), z ∈ pool
          rw [eds, spl]
          exact hp
        · show (ns.take a.toNat).length ≤ 10 ∧ ds.length ≤ 4 ∧ es.length ≤ 40
          omega
end
end Tw

set_option maxHeartbeats 4000000
namespace Tw
open PySem PySem.Spec PyProof.Rows L2
theorem nd_take {α : Type} {l : List α} {i : Nat} {z : α} (nd : l.Nodup) (e : l[i]? = some z) : ¬ z ∈ l.take i := by
  have h : (l.take (i + 1)).Nodup := List.Sublist.nodup (List.take_sublist _ _) nd
  rw [List.take_add_one, e] at h
  intro m
  exact (List.nodup_append.mp h).2.2 z m z (List.mem_singleton.mpr rfl) rfl
theorem row_of {xs : List V} {H : Hp} {α : Type} {f : α → List V} {l : List α} {i : Nat} {x : V} (R : Rows H xs (l.map f)) (hx : xs[i]? = some x) : ∃ t y, x = .ref t ∧ l[i]? = some y ∧ H t = some (.tup (f y)) := by
  obtain ⟨t, r, e, hr, ht⟩ := R.at hx
  rw [List.getElem?_map] at hr
  cases ey : l[i]? with
  | none =>
    rw [ey] at hr
    cases hr
  | some y =>
    rw [ey] at hr
    cases hr
    exact ⟨t, y, e, rfl, ht⟩
section
variable {P : Program} {w : World} {K : PySem.W.Frag} {mg : Str → Option Value} {base : Heap}
def sp_web (K : PySem.W.Frag) : Sp := fun vs H Q _ => ∃ (d : Addr) (m : Md), vs = [.ref d] ∧ MdAt H d m ∧ MdOk m ∧ ∀ (p : Addr) (H' : Hp), Same H H' → H p = none → WebAt (CW K) H' p m → Q (.ref p) H'
theorem cal__law_web (T : Tp K mg) : Cal P w K mg base 7 "_law_web" (sp_web K) := by
  obtain ⟨fd, F⟩ := f__law_web T
  refine cal_of F (g__law_web T) (b__law_web F) sc__law_web (fun vs H Q E h => ?_) (fun cdv A outer s H vs Q E hr h => ?_)
  · obtain ⟨d, m, rfl, _⟩ := h
    rfl
  · obtain ⟨d, m, rfl, M, ok, q⟩ := h
    have hu := hu_of hr
    obtain ⟨o, u, b, ws, bs, h1, h2, h3, h4, h5, h6, h7⟩ := M.ex
    have hlen := ok.len
    have ndo : m.own.Nodup := (List.nodup_append.mp ok.nd).1
    have nde : (m.wd.map (·.en)).Nodup := (List.nodup_append.mp ok.nd).2.1
    refine ⟨_, (pss_cons (ps_set (i := 1) sc__law_web.nd rfl (.inl rfl) (C8.pe_mk (mak_Web T) hr (by decide) rfl (pa_cons (pe_dget hu (pv 0) pe_str (fun _ _ => rfl)) pa_nil)))
      (pss_cons (ps_for PassesOwn.never rfl (pi_list (pe_dget hu (pv 0) pe_str (fun _ _ => rfl))) (pg_name (i := 2) sc__law_web.nd rfl (.inl rfl))
        (pss_one (ps_set (i := 1) sc__law_web.nd rfl (.inl rfl) (C8.pe_mt (met_Web_with_moment T) hr (by decide) (pv 1) (pa_cons (pv 2) pa_nil)))))
      (pss_cons (ps_for PassesOwn.never rfl (pi_list (pe_dget hu (pv 0) pe_str (fun _ _ => rfl))) (pg_tup rfl (pgs_cons (pg_name (i := 3) sc__law_web.nd rfl (.inl rfl)) (pgs_cons (pg_name (i := 4) sc__law_web.nd rfl (.inl rfl)) (pgs_cons (pg_name (i := 5) sc__law_web.nd rfl (.inl rfl)) (pgs_cons (pg_name (i := 6) sc__law_web.nd rfl (.inl rfl)) (pgs_cons (pg_name (i := 7) sc__law_web.nd rfl (.inl rfl)) pgs_nil))))))
        (pss_one (ps_set (i := 1) sc__law_web.nd rfl (.inl rfl) (pe_mg0 (met_Web_with_span T) hr (by decide) (pv 1) (pa_cons (pv 3) (pa_cons (pv 4) (pa_cons (pv 5) (pa_cons (pv 6) pa_nil)))) (pk_cons (pv 7) pk_nil)))))
      (pss_cons (ps_for PassesOwn.never rfl (pi_list (pe_dget hu (pv 0) pe_str (fun _ _ => rfl))) (pg_tup rfl (pgs_cons (pg_name (i := 8) sc__law_web.nd rfl (.inl rfl)) (pgs_cons (pg_name (i := 9) sc__law_web.nd rfl (.inl rfl)) (pgs_cons (pg_name (i := 10) sc__law_web.nd rfl (.inl rfl)) (pgs_cons (pg_name (i := 11) sc__law_web.nd rfl (.inl rfl)) pgs_nil)))))
        (pss_one (ps_set (i := 1) sc__law_web.nd rfl (.inl rfl) (pe_mg0 (met_Web_with_tie T) hr (by decide) (pv 1) (pa_cons (pv 8) (pa_cons (pv 9) pa_nil)) (pk_cons (pv 10) (pk_cons (pv 11) pk_nil))))))
      (pss_one (ps_ret (pv 1))))))), ?_⟩
    refine ⟨_, rfl, d, _, rfl, mk_by h1, fun x dx nx ndx ne => ⟨x, dx, m.last, rfl, upd_same, ok.last.1, ok.last.2, fun a0 b0 c0 H1 kp hp ha0 hb0 hc0 => ⟨rfl, ?_⟩⟩⟩
    have s1 : Same H H1 := Same.made nx ndx kp
    have W1 : WebAt (CW K) H1 x ⟨m.last, [], [], []⟩ := ⟨⟨dx, a0, b0, c0, [], [], hp, ha0, hb0, .nil, hc0, .nil⟩, ⟨by show 0 ≤ 10; decide, by show 0 ≤ 4; decide, by show 0 ≤ 40; decide⟩, ok.last⟩
    -- the moments
    refine ⟨_, rfl, d, _, rfl, mk_own (s1 _ _ h1), o, rfl, ⟨_, .inl (.inl (s1 _ _ h2))⟩, for_list (K := K) (a := o) (xs := m.own.map V.str) (fun i σ H2 => ∃ (p : Addr) (y : Option V), σ = [some (.ref d), some (.ref p), y, none, none, none, none, none, none, none, none, none] ∧
      Same H H2 ∧ H p = none ∧ WebAt (CW K) H2 p ⟨m.last, m.own.take i, [], []⟩) ⟨x, none, rfl, s1, nx, W1⟩ (fun i σ H2 _ ⟨_, _, _, s2, _⟩ => .inl (.inl (s2 _ _ h2))) ?_ ?_⟩
    · rintro i v σ H2 hv ⟨p, y, rfl, s2, np, W2⟩
      rw [List.getElem?_map] at hv
      cases ez : m.own[i]? with
      | none =>
        rw [ez] at hv
        cases hv
      | some z =>
        rw [ez] at hv
        cases hv
        have hi : i < m.own.length := (List.getElem?_eq_some_iff.mp ez).1
        have hz := pool_nm (ok.pool z (List.mem_append.mpr (.inl (List.mem_of_getElem? ez))))
        obtain ⟨dx2, _, _, _, _, _, g1, _⟩ := W2.ex
        refine ⟨_, rfl, p, dx2, _, rfl, g1, wf_no (by decide +kernel), _, rfl, p, _, z, rfl, W2, hz.1, ?_, ?_, fun r H3 s3 nr W3 => ?_⟩
        · intro hm
          rcases List.mem_cons.mp hm with e | e
          · exact hz.2 e
          · rcases List.mem_append.mp e with e | e
            · exact nd_take ndo ez e
            · cases e
        · show (m.own.take i).length < 10
          rw [List.length_take]
          omega
        · refine ⟨r, _, rfl, s2.trans s3, s2.free nr, ?_⟩
          rw [List.take_add_one, ez]
          exact W3
    · rintro σ H2 ⟨p, y, rfl, s2, np, W2⟩
      have e0 : m.own.take (m.own.map V.str).length = m.own := List.take_of_length_le (by rw [List.length_map]; exact Nat.le_refl _)
      rw [e0] at W2
      -- the spans
      refine ⟨_, rfl, d, _, rfl, mk_wd (s2 _ _ h1), u, rfl, ⟨_, .inl (.inl (s2 _ _ h3))⟩, for_list (K := K) (a := u) (xs := ws) (fun i σ H3 => ∃ (p : Addr) (y3 y4 y5 y6 y7 : Option V), σ = [some (.ref d), some (.ref p), y, y3, y4, y5, y6, y7, none, none, none, none] ∧
        Same H H3 ∧ H p = none ∧ WebAt (CW K) H3 p ⟨m.last, m.own, m.wd.take i, []⟩) ⟨p, none, none, none, none, none, rfl, s2, np, W2⟩ (fun i σ H3 _ ⟨_, _, _, _, _, _, _, s3, _⟩ => .inl (.inl (s3 _ _ h3))) ?_ ?_⟩
      · rintro i v σ H3 hv ⟨p, y3, y4, y5, y6, y7, rfl, s3, np, W3⟩
        obtain ⟨t, y, rfl, ey, ht⟩ := row_of h4 hv
        have hi : i < m.wd.length := (List.getElem?_eq_some_iff.mp ey).1
        have hy := ok.wd y (List.mem_of_getElem? ey)
        have een : (m.wd.map (·.en))[i]? = some y.en := by
          rw [List.getElem?_map, ey]
          rfl
        have hmem : y.en ∈ m.own ++ m.wd.map (·.en) := List.mem_append.mpr (.inr (List.mem_of_getElem? een))
        have hz := pool_nm (ok.pool y.en hmem)
        obtain ⟨dx3, _, _, _, _, _, g1, _⟩ := W3.ex
        refine ⟨t, y.row, rfl, .inl (.inl (s3 _ _ ht)), rfl, _, _, rfl, _, _, rfl, _, _, rfl, _, _, rfl, _, _, rfl, rfl, ?_⟩
        refine ⟨_, rfl, p, dx3, _, rfl, g1, wf_no (by decide +kernel), _, rfl, _, rfl, _, rfl, _, rfl, _, rfl, rfl, rfl, p, _, y, rfl, W3, ⟨hz.1, ?_, hy.bg, hy.lo, hy.hi, hy.top, hy.la, ?_⟩, fun r H4 s4 nr W4 => ?_⟩
        · intro hm
          rcases List.mem_cons.mp hm with e | e
          · exact hz.2 e
          · rcases List.mem_append.mp e with e | e
            · exact (List.nodup_append.mp ok.nd).2.2 _ e _ (List.mem_of_getElem? een) rfl
            · have e : y.en ∈ (m.wd.map (·.en)).take i := by
                rw [← List.map_take]
                exact e
              exact nd_take nde een e
        · show (m.wd.take i).length < 4
          rw [List.length_take]
          omega
        · refine ⟨r, _, _, _, _, _, rfl, s3.trans s4, s3.free nr, ?_⟩
          rw [List.take_add_one, ey]
          exact W4
      · rintro σ H3 ⟨p, y3, y4, y5, y6, y7, rfl, s3, np, W3⟩
        have ew : ws.length = m.wd.length := by rw [h4.len, List.length_map]
        have e0 : m.wd.take ws.length = m.wd := List.take_of_length_le (by omega)
        rw [e0] at W3
        -- the ties
        refine ⟨_, rfl, d, _, rfl, mk_bd (s3 _ _ h1), b, rfl, ⟨_, .inl (.inl (s3 _ _ h5))⟩, for_list (K := K) (a := b) (xs := bs) (fun i σ H4 => ∃ (p : Addr) (y8 y9 y10 y11 : Option V), σ = [some (.ref d), some (.ref p), y, y3, y4, y5, y6, y7, y8, y9, y10, y11] ∧
          Same H H4 ∧ H p = none ∧ WebAt (CW K) H4 p ⟨m.last, m.own, m.wd, m.bd.take i⟩) ⟨p, none, none, none, none, rfl, s3, np, W3⟩ (fun i σ H4 _ ⟨_, _, _, _, _, _, s4, _⟩ => .inl (.inl (s4 _ _ h5))) ?_ ?_⟩
        · rintro i v σ H4 hv ⟨p, y8, y9, y10, y11, rfl, s4, np, W4⟩
          obtain ⟨t, y, rfl, ey, ht⟩ := row_of h6 hv
          have hi : i < m.bd.length := (List.getElem?_eq_some_iff.mp ey).1
          have hy := ok.bd y (List.mem_of_getElem? ey)
          obtain ⟨dx4, _, _, _, _, _, g1, _⟩ := W4.ex
          refine ⟨t, y.row, rfl, .inl (.inl (s4 _ _ ht)), rfl, _, _, rfl, _, _, rfl, _, _, rfl, _, _, rfl, rfl, ?_⟩
          refine ⟨_, rfl, p, dx4, _, rfl, g1, wf_no (by decide +kernel), _, rfl, _, rfl, _, rfl, _, rfl, rfl, rfl, p, _, y, rfl, W4, ⟨hy.one, hy.oth, hy.ne, hy.b, ?_⟩, fun r H5 s5 nr W5 => ?_⟩
          · show (m.bd.take i).length < 40
            rw [List.length_take]
            omega
          · refine ⟨r, _, _, _, _, rfl, s4.trans s5, s4.free nr, ?_⟩
            rw [List.take_add_one, ey]
            exact W5
        · rintro σ H4 ⟨p, y8, y9, y10, y11, rfl, s4, np, W4⟩
          have eb : bs.length = m.bd.length := by rw [h6.len, List.length_map]
          have e0 : m.bd.take bs.length = m.bd := List.take_of_length_le (by omega)
          rw [e0] at W4
          exact ⟨_, rfl, q p H4 s4 np W4⟩
end
end Tw

set_option maxHeartbeats 4000000
namespace Tw
open PySem PySem.Spec PyProof.Rows L2
/-! ### laying, in plain words -/
def offW (z : Str) : List Wd → Str × Int × Int
  | [] => (z, 0, 0)
  | x :: r => if x.en = z then (match x.la with
    | none => (x.bg, x.lo, x.hi)
    | some i => (x.en, -i, -i)) else offW z r
def offRow (r : Str × Int × Int) : List V := [.str r.1, .int r.2.1, .int r.2.2]
def hs (l : List Wd) : List (Str × Str × Int × Int) := l.filterMap fun x => x.la.map fun i => (x.en, x.bg, x.lo + i, x.hi + i)
def hRow (h : Str × Str × Int × Int) : List V := [.str h.1, .str h.2.1, .int h.2.2.1, .int h.2.2.2]
def mRows (l : Int) (z : Str) : List (List V) := [[.str "start", .str z, .int l], [.str z, .str "start", .int 0]]
def h2Rows (h : Str × Str × Int × Int) : List (List V) := [[.str h.2.1, .str h.1, .int h.2.2.2], [.str h.1, .str h.2.1, .int (-h.2.2.1)]]
def topRow (a b : Str × Int × Int) : Option Int → List (List V)
  | none => []
  | some t => [[.str a.1, .str b.1, .int (t - b.2.2 + a.2.1)]]
def botRow (a b : Str × Int × Int) : Option Int → List (List V)
  | none => []
  | some t => [[.str b.1, .str a.1, .int (b.2.1 - a.2.2 - t)]]
def tieRows (wd : List Wd) (x : Bd) : List (List V) := topRow (offW x.one wd) (offW x.oth wd) x.top ++ botRow (offW x.one wd) (offW x.oth wd) x.bot
def bRows (m : Md) : List (List V) := m.own.flatMap (mRows m.last) ++ (hs m.wd).flatMap h2Rows ++ m.bd.flatMap (tieRows m.wd)
theorem drop_cons {α : Type} {l : List α} {i : Nat} {x : α} (e : l[i]? = some x) : l.drop i = x :: l.drop (i + 1) := by
  obtain ⟨h, rfl⟩ := List.getElem?_eq_some_iff.mp e
  exact List.drop_eq_getElem_cons h
theorem hs_take {l : List Wd} {i : Nat} {x : Wd} (e : l[i]? = some x) : hs (l.take (i + 1)) = hs (l.take i) ++ (x.la.map fun i => (x.en, x.bg, x.lo + i, x.hi + i)).toList := by
  unfold hs
  rw [List.take_add_one, e, List.filterMap_append]
  cases h : x.la <;> simp [h]
theorem hs_len (l : List Wd) : (hs l).length ≤ l.length := List.length_filterMap_le _ _
theorem fm_take {α β : Type} (f : α → List β) {l : List α} {i : Nat} {x : α} (e : l[i]? = some x) : (l.take (i + 1)).flatMap f = (l.take i).flatMap f ++ f x := by
  rw [List.take_add_one, e, List.flatMap_append]
  simp
theorem fm_len {α β : Type} (f : α → List β) (n : Nat) (h : ∀ x, (f x).length ≤ n) : ∀ l : List α, (l.flatMap f).length ≤ n * l.length
  | [] => by simp
  | a :: r => by
    rw [List.flatMap_cons, List.length_append, List.length_cons]
    have := fm_len f n h r
    have := h a
    rw [Nat.mul_add]
    omega
theorem tie_len (wd : List Wd) (x : Bd) : (tieRows wd x).length ≤ 2 := by
  unfold tieRows
  cases x.top <;> cases x.bot <;> simp [topRow, botRow]
/-- a list of tuples with these rows -/
def RowsAt (H : Hp) (D : Addr) (rs : List (List V)) : Prop := ∃ xs, H D = some (.lst xs) ∧ Rows H xs rs
theorem RowsAt.same {H H' : Hp} {D : Addr} {rs : List (List V)} (h : RowsAt H D rs) (s : Same H H') : RowsAt H' D rs := let ⟨xs, h1, h2⟩ := h; ⟨xs, s _ _ h1, h2.keep (Kt.of s)⟩
theorem kt_put {H : Hp} {D : Addr} {xs ys : List V} (h : H D = some (.lst xs)) : Kt H (upd H D (.lst ys)) := Kt.upd fun zs z => by
  rw [h] at z
  cases z
theorem rows_add {H : Hp} {D t : Addr} {xs : List V} {rs : List (List V)} {r : List V} (h : H D = some (.lst xs)) (R : Rows H xs rs) (nt : H t = none) : RowsAt (upd (upd H t (.tup r)) D (.lst (xs ++ [.ref t]))) D (rs ++ [r]) := by
  have s := same_upd (o := .tup r) nt
  have k := kt_put (ys := xs ++ [.ref t]) (s _ _ h)
  exact ⟨_, upd_same, ((R.keep (Kt.of s)).keep k).snoc (k _ _ upd_same)⟩
theorem Rows.append {H : Hp} : ∀ {xs ys : List V} {rs ss : List (List V)}, Rows H xs rs → Rows H ys ss → Rows H (xs ++ ys) (rs ++ ss)
  | _, _, _, _, .nil, h => h
  | _, _, _, _, .cons a t, h => .cons a (Rows.append t h)
section
variable {P : Program} {w : World} {K : PySem.W.Frag} {mg : Str → Option Value} {base : Heap}
/-! ### offset -/
def sp_offset (K : PySem.W.Frag) : Sp := fun vs H Q _ => ∃ (p : Addr) (m : Md) (z : Str), vs = [.ref p, .str z] ∧ WebAt (CW K) H p m ∧ z ∈ m.pts ∧ ∀ (t : Addr) (H' : Hp), Same H H' → H t = none → H' t = some (.tup (offRow (offW z m.wd))) → Q (.ref t) H'
theorem cal_offset (T : Tp K mg) : Cal P w K mg base 5 "offset" (sp_offset K) := by
  obtain ⟨fd, F⟩ := f_offset T
  refine cal_of F (g_offset T) (b_offset F) sc_offset (fun vs H Q E h => ?_) (fun cdv A outer s H vs Q E hr h => ?_)
  · obtain ⟨p, m, z, rfl, _⟩ := h
    rfl
  · obtain ⟨p, m, z, rfl, W, hz, q⟩ := h
    refine ⟨_, (pss_cons (ps_expr (C8.pe_c (cal_need_point T) hr (by decide) rfl (pa_cons (pv 0) (pa_cons (pv 1) pa_nil))))
      (pss_cons (ps_for PassesOwn.never rfl (pi_list (C8.pe_mt0 (met_Web_spans T) hr (by decide) (pv 0))) (pg_tup rfl (pgs_cons (pg_name (i := 2) sc_offset.nd rfl (.inl rfl)) (pgs_cons (pg_name (i := 3) sc_offset.nd rfl (.inl rfl)) (pgs_cons (pg_name (i := 4) sc_offset.nd rfl (.inl rfl)) (pgs_cons (pg_name (i := 5) sc_offset.nd rfl (.inl rfl)) (pgs_cons (pg_name (i := 6) sc_offset.nd rfl (.inl rfl)) pgs_nil))))))
        (pss_cons (ps_if (PW.pt (pw_and (pt_cmpR op_eq (pv 2) (pv 1) (nomark _)) (pw_and1 (pt_cmpR op_isN (pv 6) pe_non (nomark _))))) (pss_one (ps_ret (pe_tup (pa_cons (pv 3) (pa_cons (pv 4) (pa_cons (pv 5) pa_nil)))))) pss_nil)
        (pss_one (ps_if (pt_cmpR op_eq (pv 2) (pv 1) (nomark _)) (pss_one (ps_ret (pe_tup (pa_cons (pv 2) (pa_cons (pe_un un_neg (pv 6)) (pa_cons (pe_un un_neg (pv 6)) pa_nil)))))) pss_nil))))
      (pss_one (ps_ret (pe_tup (pa_cons (pv 1) (pa_cons pe_int (pa_cons pe_int pa_nil)))))))), ?_⟩
    refine ⟨_, rfl, _, rfl, p, m, z, rfl, W, hz, fun H1 s1 => ?_⟩
    have W1 := W.same s1
    obtain ⟨dx, _, _, _, _, _, g1, _⟩ := W1.ex
    refine ⟨_, rfl, p, dx, _, rfl, g1, wf_no (by decide +kernel), p, m, rfl, W1, fun ws l R nl => ?_⟩
    have s2 := s1.trans (same_upd (o := .lst ws) nl)
    have R2 := R.keep (Kt.of (same_upd (o := .lst ws) nl))
    refine ⟨l, rfl, ⟨_, .inl (.inl upd_same)⟩, for_list (K := K) (a := l) (xs := ws) (fun i σ H2 => H2 = upd H1 l (.lst ws) ∧ offW z m.wd = offW z (m.wd.drop i) ∧ ∃ y2 y3 y4 y5 y6 : Option V, σ = [some (.ref p), some (.str z), y2, y3, y4, y5, y6]) ⟨rfl, rfl, none, none, none, none, none, rfl⟩ (fun i σ H2 _ h => by rw [h.1]; exact .inl (.inl upd_same)) ?_ ?_⟩
    · rintro i x σ H2 hx ⟨rfl, ho, y2, y3, y4, y5, y6, rfl⟩
      obtain ⟨t, y, rfl, ey, ht⟩ := row_of R2 hx
      rw [drop_cons ey] at ho
      refine ⟨t, y.row, rfl, .inl (.inl ht), rfl, _, _, rfl, _, _, rfl, _, _, rfl, _, _, rfl, _, _, rfl, rfl, ?_⟩
      refine ⟨_, rfl, _, rfl, rfl, _, rfl, ?_⟩
      by_cases e : y.en = z
      · rw [decide_eq_true (show V.str y.en = V.str z by rw [e])]
        have ho2 : offW z m.wd = (match y.la with
          | none => (y.bg, y.lo, y.hi)
          | some i => (y.en, -i, -i)) := by
          rw [ho]
          show (if y.en = z then _ else _) = _
          rw [if_pos e]
        refine iteT ⟨_, rfl, rfl, _, rfl, ?_⟩
        rw [oV_non]
        cases el : y.la with
        | none =>
          rw [el] at ho2
          refine iteT ⟨_, rfl, _, rfl, _, rfl, (by show 3 ≤ sizeLine; decide), fun u nu => q u _ (s2.trans (same_upd nu)) (s2.free nu) ?_⟩
          rw [upd_same, ho2]
          rfl
        | some j =>
          rw [el] at ho2
          refine iteF ⟨_, rfl, _, rfl, rfl, _, rfl, ?_⟩
          rw [decide_eq_true (show V.str y.en = V.str z by rw [e])]
          refine iteT ⟨_, rfl, _, rfl, j, rfl, _, rfl, j, rfl, (by show 3 ≤ sizeLine; decide), fun u nu => q u _ (s2.trans (same_upd nu)) (s2.free nu) ?_⟩
          rw [upd_same, ho2]
          rfl
      · have ne : ¬ V.str y.en = V.str z := fun h => e (V.str.inj h)
        rw [decide_eq_false ne]
        refine iteF (iteF ⟨_, rfl, _, rfl, rfl, _, rfl, ?_⟩)
        rw [decide_eq_false ne]
        refine iteF ⟨rfl, ?_, _, _, _, _, _, rfl⟩
        rw [ho]
        show (if y.en = z then _ else _) = _
        rw [if_neg e]
    · rintro σ H2 ⟨rfl, ho, y2, y3, y4, y5, y6, rfl⟩
      have e0 : m.wd.drop ws.length = [] := List.drop_of_length_le (by rw [R.len, List.length_map]; exact Nat.le_refl _)
      rw [e0] at ho
      refine ⟨_, rfl, (by show 3 ≤ sizeLine; decide), fun u nu => q u _ (s2.trans (same_upd nu)) (s2.free nu) ?_⟩
      rw [upd_same, ho]
      rfl
/-! ### heard_spans -/
def sp_heard (K : PySem.W.Frag) : Sp := fun vs H Q _ => ∃ (p : Addr) (m : Md), vs = [.ref p] ∧ WebAt (CW K) H p m ∧ ∀ (D : Addr) (H' : Hp), Same H H' → H D = none → RowsAt H' D ((hs m.wd).map hRow) → Q (.ref D) H'
theorem cal_heard_spans (T : Tp K mg) : Cal P w K mg base 3 "heard_spans" (sp_heard K) := by
  obtain ⟨fd, F⟩ := f_heard_spans T
  refine cal_of F (g_heard_spans T) (b_heard_spans F) sc_heard_spans (fun vs H Q E h => ?_) (fun cdv A outer s H vs Q E hr h => ?_)
  · obtain ⟨p, m, rfl, _⟩ := h
    rfl
  · obtain ⟨p, m, rfl, W, q⟩ := h
    have hlen := W.len
    refine ⟨_, (pss_one (ps_ret (pe_lc (own := [("end", 1), ("begin", 2), ("low", 3), ("high", 4), ("late", 5)]) rfl sc_heard_spans.nd (pi_list (C8.pe_mt0 (met_Web_spans T) hr (by decide) (pv 0))) (blkOk_by (N := N_heard_spans) (sc := defScope s_heard_spans) (by decide +kernel)) (fun _ _ _ _ _ => (pg_tupK (K := K) (n := 5) rfl rfl (pgs_cons (pg_name (i := 1) sc_heard_spans.nd rfl (.inl rfl)) (pgs_cons (pg_name (i := 2) sc_heard_spans.nd rfl (.inl rfl)) (pgs_cons (pg_name (i := 3) sc_heard_spans.nd rfl (.inl rfl)) (pgs_cons (pg_name (i := 4) sc_heard_spans.nd rfl (.inl rfl)) (pgs_cons (pg_name (i := 5) sc_heard_spans.nd rfl (.inl rfl)) pgs_nil))))))) (fun _ _ _ _ _ => (pts_one (pt_cmpR op_notN (pv 5) pe_non (nomark _)))) (fun _ _ _ _ _ => (pe_tup (pa_cons (pv 1) (pa_cons (pv 2) (pa_cons (pe_op op_add (pv 3) (pv 5)) (pa_cons (pe_op op_add (pv 4) (pv 5)) pa_nil))))))))), ?_⟩
    obtain ⟨dx, _, _, _, _, _, g1, _⟩ := W.ex
    refine ⟨_, rfl, p, dx, _, rfl, g1, wf_no (by decide +kernel), p, m, rfl, W, fun ws l R nl => ?_⟩
    have s1 := same_upd (o := .lst ws) nl
    have R1 := R.keep (Kt.of s1)
    refine ⟨l, rfl, ⟨_, .inl (.inl upd_same)⟩, fun D nD => ?_⟩
    have nDH := s1.free nD
    refine lc_list (K := K) (a := l) (xs := ws) (fun i H2 => Same (upd H l (.lst ws)) H2 ∧ RowsAt H2 D ((hs (m.wd.take i)).map hRow)) ⟨same_upd nD, [], upd_same, .nil⟩ (fun i H2 _ ⟨s2, _⟩ => .inl (.inl (s2 _ _ upd_same))) ?_ ?_
    · rintro i x H2 hx ⟨s2, xs, d1, d2⟩
      obtain ⟨t, y, rfl, ey, ht⟩ := row_of R1 hx
      have hi : i < m.wd.length := (List.getElem?_eq_some_iff.mp ey).1
      refine ⟨t, y.row, rfl, .inl (.inl (s2 _ _ ht)), rfl, _, _, rfl, _, _, rfl, _, _, rfl, _, _, rfl, _, _, rfl, rfl, rfl, ?_⟩
      refine ⟨_, rfl, rfl, _, rfl, ?_⟩
      rw [oV_non]
      cases el : y.la with
      | none =>
        refine iteF ⟨s2, ?_⟩
        rw [hs_take ey, el]
        show RowsAt H2 D ((hs (m.wd.take i) ++ []).map hRow)
        rw [List.append_nil]
        exact ⟨xs, d1, d2⟩
      | some j =>
        refine iteT ⟨_, rfl, _, rfl, _, rfl, _, rfl, y.lo, j, rfl, rfl, _, rfl, _, rfl, y.hi, j, rfl, rfl, (by show 4 ≤ sizeLine; decide), fun u nu => ?_⟩
        have s3 := same_upd (o := .tup (hRow (y.en, y.bg, y.lo + j, y.hi + j))) nu
        refine ⟨xs, s3 _ _ d1, ?_, same_put (s2.trans s3) nD, ?_⟩
        · rw [d2.len, List.length_map]
          have h1 := hs_len (m.wd.take i)
          rw [List.length_take] at h1
          exact small1000 (by omega)
        · rw [hs_take ey, el, List.map_append]
          exact rows_add d1 d2 nu
    · rintro H2 ⟨s2, d⟩
      have e0 : m.wd.take ws.length = m.wd := List.take_of_length_le (by rw [R.len, List.length_map]; exact Nat.le_refl _)
      rw [e0] at d
      exact q D H2 (s1.trans s2) nDH d
end
end Tw

set_option maxHeartbeats 4000000
namespace Tw
open PySem PySem.Spec PyProof.Rows L2
section
variable {P : Program} {w : World} {K : PySem.W.Frag} {mg : Str → Option Value} {base : Heap}
/-! ### tie_bounds -/
def sp_tieb (K : PySem.W.Frag) : Sp := fun vs H Q _ => ∃ (p t : Addr) (m : Md) (x : Bd), vs = [.ref p, .ref t] ∧ WebAt (CW K) H p m ∧ H t = some (.tup x.row) ∧ x.one ∈ m.pts ∧ x.oth ∈ m.pts ∧ ∀ (D : Addr) (H' : Hp), Same H H' → H D = none → RowsAt H' D (tieRows m.wd x) → Q (.ref D) H'
theorem cal_tie_bounds (T : Tp K mg) : Cal P w K mg base 6 "tie_bounds" (sp_tieb K) := by
  obtain ⟨fd, F⟩ := f_tie_bounds T
  refine cal_of F (g_tie_bounds T) (b_tie_bounds F) sc_tie_bounds (fun vs H Q E h => ?_) (fun cdv A outer s H vs Q E hr h => ?_)
  · obtain ⟨p, t, m, x, rfl, _⟩ := h
    rfl
  · obtain ⟨p, t, m, x, rfl, W, ht, h1, h2, q⟩ := h
    refine ⟨_, (pss_cons (ps_asg (pv 1) (pg_tup rfl (pgs_cons (pg_name (i := 2) sc_tie_bounds.nd rfl (.inl rfl)) (pgs_cons (pg_name (i := 3) sc_tie_bounds.nd rfl (.inl rfl)) (pgs_cons (pg_name (i := 4) sc_tie_bounds.nd rfl (.inl rfl)) (pgs_cons (pg_name (i := 5) sc_tie_bounds.nd rfl (.inl rfl)) pgs_nil))))))
      (pss_cons (ps_asg (C8.pe_c (cal_offset T) hr (by decide) rfl (pa_cons (pv 0) (pa_cons (pv 2) pa_nil))) (pg_tup rfl (pgs_cons (pg_name (i := 6) sc_tie_bounds.nd rfl (.inl rfl)) (pgs_cons (pg_name (i := 7) sc_tie_bounds.nd rfl (.inl rfl)) (pgs_cons (pg_name (i := 8) sc_tie_bounds.nd rfl (.inl rfl)) pgs_nil)))))
      (pss_cons (ps_asg (C8.pe_c (cal_offset T) hr (by decide) rfl (pa_cons (pv 0) (pa_cons (pv 3) pa_nil))) (pg_tup rfl (pgs_cons (pg_name (i := 9) sc_tie_bounds.nd rfl (.inl rfl)) (pgs_cons (pg_name (i := 10) sc_tie_bounds.nd rfl (.inl rfl)) (pgs_cons (pg_name (i := 11) sc_tie_bounds.nd rfl (.inl rfl)) pgs_nil)))))
      (pss_cons (ps_set (i := 12) sc_tie_bounds.nd rfl (.inl rfl) (pe_lst pa_nil))
      (C8.pss_cut (ps_if (pt_cmpR op_notN (pv 5) pe_non (nomark _)) (pss_one (ps_expr (pe_bm PySem.F.plainAttrs_list PySem.F.slot_list_append PySem.F.type_list_append mt_append (pv 12) (pa_cons (pe_tup (pa_cons (pv 6) (pa_cons (pv 9) (pa_cons (pe_op op_add (pe_op op_sub (pv 5) (pv 11)) (pv 7)) pa_nil)))) pa_nil)))) pss_nil)
      (pss_cons (ps_if (pt_cmpR op_notN (pv 4) pe_non (nomark _)) (pss_one (ps_expr (pe_bm PySem.F.plainAttrs_list PySem.F.slot_list_append PySem.F.type_list_append mt_append (pv 12) (pa_cons (pe_tup (pa_cons (pv 9) (pa_cons (pv 6) (pa_cons (pe_op op_sub (pe_op op_sub (pv 10) (pv 8)) (pv 4)) pa_nil)))) pa_nil)))) pss_nil)
      (pss_one (ps_ret (pv 12))))))))), ?_⟩
    refine ⟨_, rfl, t, x.row, rfl, .inl (.inl ht), rfl, _, _, rfl, _, _, rfl, _, _, rfl, _, _, rfl, rfl, ?_⟩
    refine ⟨_, rfl, _, rfl, p, m, x.one, rfl, W, h1, fun u H1 s1 nu hu => ⟨u, _, rfl, .inl (.inl hu), rfl, _, _, rfl, _, _, rfl, _, _, rfl, rfl, ?_⟩⟩
    refine ⟨_, rfl, _, rfl, p, m, x.oth, rfl, W.same s1, h2, fun v H2 s2 nv hv => ⟨v, _, rfl, .inl (.inl hv), rfl, _, _, rfl, _, _, rfl, _, _, rfl, rfl, ?_⟩⟩
    refine ⟨Nat.zero_le _, fun D nD => ?_⟩
    have sA := s1.trans s2
    have nDH := sA.free nD
    have s3 := sA.trans (same_upd (o := .lst []) nD)
    refine ⟨fun σ' H' => σ' = [some (.ref p), some (.ref t), some (.str x.one), some (.str x.oth), some (oV x.bot), some (oV x.top), some (.str (offW x.one m.wd).1), some (.int (offW x.one m.wd).2.1), some (.int (offW x.one m.wd).2.2), some (.str (offW x.oth m.wd).1), some (.int (offW x.oth m.wd).2.1), some (.int (offW x.oth m.wd).2.2), some (.ref D)] ∧
      Same H H' ∧ RowsAt H' D (topRow (offW x.one m.wd) (offW x.oth m.wd) x.top), ?_, ?_⟩
    · refine ⟨_, rfl, rfl, _, rfl, ?_⟩
      rw [oV_non]
      cases ex : x.top with
      | none => exact iteF ⟨rfl, s3, [], upd_same, .nil⟩
      | some i =>
        refine iteT ⟨_, rfl, .inl ⟨rfl, _, .inl (.inl upd_same)⟩, _, rfl, _, rfl, _, rfl, _, rfl, i, _, rfl, rfl, _, rfl, _, _, rfl, rfl, (by show 3 ≤ sizeLine; decide), fun r nr => ?_⟩
        have s4 := same_upd (o := .tup [.str (offW x.one m.wd).1, .str (offW x.oth m.wd).1, .int (i - (offW x.oth m.wd).2.2 + (offW x.one m.wd).2.1)]) nr
        exact ⟨D, _, _, rfl, rfl, s4 _ _ upd_same, by decide, rfl, same_put (s3.trans s4) nDH, rows_add (rs := []) upd_same .nil nr⟩
    · rintro σ' H' ⟨rfl, s4, xs, d1, d2⟩
      have hl : xs.length ≤ 1 := by
        rw [d2.len]
        cases x.top <;> simp [topRow]
      refine ⟨_, rfl, rfl, _, rfl, ?_⟩
      rw [oV_non]
      cases ex : x.bot with
      | none =>
        refine iteF ⟨_, rfl, q D H' s4 nDH ⟨xs, d1, ?_⟩⟩
        unfold tieRows
        rw [ex]
        show Rows H' xs (_ ++ [])
        rw [List.append_nil]
        exact d2
      | some i =>
        refine iteT ⟨_, rfl, .inl ⟨rfl, _, .inl (.inl d1)⟩, _, rfl, _, rfl, _, rfl, _, rfl, _, _, rfl, rfl, _, rfl, _, i, rfl, rfl, (by show 3 ≤ sizeLine; decide), fun r nr => ?_⟩
        have s5 := same_upd (o := .tup [.str (offW x.oth m.wd).1, .str (offW x.one m.wd).1, .int ((offW x.oth m.wd).2.1 - (offW x.one m.wd).2.2 - i)]) nr
        refine ⟨D, xs, _, rfl, rfl, s5 _ _ d1, small1000 (by omega), _, rfl, q D _ (same_put (s4.trans s5) nDH) nDH ?_⟩
        unfold tieRows
        rw [ex]
        exact rows_add d1 d2 nr
/-! ### bounds -/
def sp_bounds (K : PySem.W.Frag) : Sp := fun vs H Q _ => ∃ (p : Addr) (m : Md), vs = [.ref p] ∧ WebAt (CW K) H p m ∧ (∀ x ∈ m.bd, x.one ∈ m.pts ∧ x.oth ∈ m.pts) ∧ ∀ (D : Addr) (H' : Hp), Same H H' → H D = none → RowsAt H' D (bRows m) → Q (.ref D) H'
theorem cal_bounds (T : Tp K mg) : Cal P w K mg base 7 "bounds" (sp_bounds K) := by
  obtain ⟨fd, F⟩ := f_bounds T
  refine cal_of F (g_bounds T) (b_bounds F) sc_bounds (fun vs H Q E h => ?_) (fun cdv A outer s H vs Q E hr h => ?_)
  · obtain ⟨p, m, rfl, _⟩ := h
    rfl
  · obtain ⟨p, m, rfl, W, hpt, q⟩ := h
    have hlen := W.len
    refine ⟨_, (pss_cons (ps_set (i := 1) sc_bounds.nd rfl (.inl rfl) (pe_lst pa_nil))
      (pss_cons (ps_for PassesOwn.never rfl (pi_list (C8.pe_mt0 (met_Web_moments T) hr (by decide) (pv 0))) (pg_name (i := 2) sc_bounds.nd rfl (.inl rfl))
        (pss_cons (ps_expr (pe_bm PySem.F.plainAttrs_list PySem.F.slot_list_append PySem.F.type_list_append mt_append (pv 1) (pa_cons (pe_tup (pa_cons (C8.pe_gc (by rfl) (c_START T)) (pa_cons (pv 2) (pa_cons (pe_fld (pv 0) rfl) pa_nil)))) pa_nil)))
        (pss_one (ps_expr (pe_bm PySem.F.plainAttrs_list PySem.F.slot_list_append PySem.F.type_list_append mt_append (pv 1) (pa_cons (pe_tup (pa_cons (pv 2) (pa_cons (C8.pe_gc (by rfl) (c_START T)) (pa_cons pe_int pa_nil)))) pa_nil))))))
      (pss_cons (ps_for PassesOwn.never rfl (pi_list (C8.pe_c (cal_heard_spans T) hr (by decide) rfl (pa_cons (pv 0) pa_nil))) (pg_tup rfl (pgs_cons (pg_name (i := 3) sc_bounds.nd rfl (.inl rfl)) (pgs_cons (pg_name (i := 4) sc_bounds.nd rfl (.inl rfl)) (pgs_cons (pg_name (i := 5) sc_bounds.nd rfl (.inl rfl)) (pgs_cons (pg_name (i := 6) sc_bounds.nd rfl (.inl rfl)) pgs_nil)))))
        (pss_cons (ps_expr (pe_bm PySem.F.plainAttrs_list PySem.F.slot_list_append PySem.F.type_list_append mt_append (pv 1) (pa_cons (pe_tup (pa_cons (pv 4) (pa_cons (pv 3) (pa_cons (pv 6) pa_nil)))) pa_nil)))
        (pss_one (ps_expr (pe_bm PySem.F.plainAttrs_list PySem.F.slot_list_append PySem.F.type_list_append mt_append (pv 1) (pa_cons (pe_tup (pa_cons (pv 3) (pa_cons (pv 4) (pa_cons (pe_un un_neg (pv 5)) pa_nil)))) pa_nil))))))
      (pss_cons (ps_for PassesOwn.never rfl (pi_list (C8.pe_mt0 (met_Web_ties T) hr (by decide) (pv 0))) (pg_name (i := 7) sc_bounds.nd rfl (.inl rfl))
        (pss_one (ps_expr (pe_bm PySem.F.plainAttrs_list PySem.F.slot_list_extend PySem.F.type_list_extend mt_extend (pv 1) (pa_cons (C8.pe_c (cal_tie_bounds T) hr (by decide) rfl (pa_cons (pv 0) (pa_cons (pv 7) pa_nil))) pa_nil)))))
      (pss_one (ps_ret (pv 1))))))), ?_⟩
    refine ⟨Nat.zero_le _, fun D nD => ?_⟩
    have s0 := same_upd (o := .lst []) nD
    have W0 := W.same s0
    obtain ⟨dx, _, _, _, _, _, g0, _⟩ := W0.ex
    -- the moments
    refine ⟨_, rfl, p, dx, _, rfl, g0, wf_no (by decide +kernel), p, m, rfl, W0, fun k nk => ?_⟩
    have s1 := same_upd (o := .lst (m.own.map V.str)) nk
    have nDk : k ≠ D := (ne_of_none (upd_same (H := H) (a := D) (o := .lst [])) nk).symm
    refine ⟨k, rfl, ⟨_, .inl (.inl upd_same)⟩, for_list (K := K) (a := k) (xs := m.own.map V.str) (fun i σ H2 => ∃ y : Option V, σ = [some (.ref p), some (.ref D), y, none, none, none, none, none] ∧ Same H H2 ∧ H2 k = some (.lst (m.own.map V.str)) ∧ RowsAt H2 D ((m.own.take i).flatMap (mRows m.last)))
      ⟨none, rfl, s0.trans s1, upd_same, [], s1 _ _ upd_same, .nil⟩ (fun i σ H2 _ ⟨_, _, _, h, _⟩ => .inl (.inl h)) ?_ ?_⟩
    · rintro i v σ H2 hv ⟨y, rfl, s2, hk2, xs, d1, d2⟩
      rw [List.getElem?_map] at hv
      cases ez : m.own[i]? with
      | none =>
        rw [ez] at hv
        cases hv
      | some z =>
        rw [ez] at hv
        cases hv
        have hi : i < m.own.length := (List.getElem?_eq_some_iff.mp ez).1
        have hxl : xs.length ≤ 2 * m.own.length := by
          rw [d2.len]
          refine Nat.le_trans (fm_len _ 2 (fun _ => Nat.le_refl _) _) ?_
          rw [List.length_take]
          omega
        have W2 := W.same s2
        obtain ⟨dx2, _, _, _, _, _, g2, _⟩ := W2.ex
        refine ⟨_, rfl, .inl ⟨rfl, _, .inl (.inl d1)⟩, _, rfl, _, rfl, p, CW K, dx2, _, _, rfl, g2, cl_Web T, na_by T, wf_by, (by show 3 ≤ sizeLine; decide), fun t nt => ?_⟩
        have s3 := same_upd (o := .tup [.str "start", .str z, .int m.last]) nt
        refine ⟨D, xs, _, rfl, rfl, s3 _ _ d1, small1000 (by omega), ?_⟩
        obtain ⟨xs2, e1, e2⟩ := rows_add (r := [.str "start", .str z, .int m.last]) d1 d2 nt
        have s4 := same_put (o := .lst (xs ++ [.ref t])) (s2.trans s3) nD
        have hk4 : (upd (upd H2 t (.tup [.str "start", .str z, .int m.last])) D (.lst (xs ++ [.ref t]))) k = some (.lst (m.own.map V.str)) := by
          rw [upd_ne nDk]
          exact s3 _ _ hk2
        have hl2 : xs2.length ≤ 2 * m.own.length + 1 := by
          rw [e2.len, List.length_append, ← d2.len]
          show xs.length + 1 ≤ _
          omega
        refine ⟨_, rfl, .inl ⟨rfl, _, .inl (.inl e1)⟩, _, rfl, (by show 3 ≤ sizeLine; decide), fun u nu => ?_⟩
        have s5 := same_upd (o := .tup [.str z, .str "start", .int 0]) nu
        refine ⟨D, xs2, _, rfl, rfl, s5 _ _ e1, small1000 (by omega), _, rfl, same_put (s4.trans s5) nD, by rw [upd_ne nDk]; exact s5 _ _ hk4, ?_⟩
        rw [fm_take _ ez]
        have := rows_add (r := [.str z, .str "start", .int 0]) e1 e2 nu
        rw [List.append_assoc] at this
        exact this
    · rintro σ H2 ⟨y, rfl, s2, hk2, d⟩
      have e0 : m.own.take (m.own.map V.str).length = m.own := List.take_of_length_le (by rw [List.length_map]; exact Nat.le_refl _)
      rw [e0] at d
      have l1 : (m.own.flatMap (mRows m.last)).length ≤ 20 := by
        have := fm_len (mRows m.last) 2 (fun _ => Nat.le_refl _) m.own
        omega
      -- the spans that are heard
      refine ⟨_, rfl, p, m, rfl, W.same s2, fun g H3 s3 ng R3 => ?_⟩
      obtain ⟨gs, hg, rg⟩ := R3
      obtain ⟨xs0, d1', d2'⟩ := d
      have nDg : g ≠ D := (ne_of_none d1' ng).symm
      have hsl := hs_len m.wd
      refine ⟨g, rfl, ⟨_, .inl (.inl hg)⟩, for_list (K := K) (a := g) (xs := gs) (fun i σ H4 => ∃ y3 y4 y5 y6 : Option V, σ = [some (.ref p), some (.ref D), y, y3, y4, y5, y6, none] ∧ Same H H4 ∧ H4 g = some (.lst gs) ∧ Rows H4 gs ((hs m.wd).map hRow) ∧ RowsAt H4 D (m.own.flatMap (mRows m.last) ++ ((hs m.wd).take i).flatMap h2Rows))
        ⟨none, none, none, none, rfl, s2.trans s3, hg, rg, ?_⟩ (fun i σ H4 _ ⟨_, _, _, _, _, _, h, _⟩ => .inl (.inl h)) ?_ ?_⟩
      · show RowsAt H3 D (_ ++ [])
        rw [List.append_nil]
        exact (RowsAt.same ⟨xs0, d1', d2'⟩ s3)
      · rintro i v σ H4 hv ⟨y3, y4, y5, y6, rfl, s4, hg4, rg4, xs, d1, d2⟩
        obtain ⟨t, x, rfl, ey, ht⟩ := row_of rg4 hv
        have hi : i < (hs m.wd).length := (List.getElem?_eq_some_iff.mp ey).1
        have hxl : xs.length ≤ 28 := by
          rw [d2.len, List.length_append]
          have := fm_len h2Rows 2 (fun _ => Nat.le_refl _) ((hs m.wd).take i)
          rw [List.length_take] at this
          omega
        refine ⟨t, hRow x, rfl, .inl (.inl ht), rfl, _, _, rfl, _, _, rfl, _, _, rfl, _, _, rfl, rfl, ?_⟩
        refine ⟨_, rfl, .inl ⟨rfl, _, .inl (.inl d1)⟩, _, rfl, _, rfl, _, rfl, (by show 3 ≤ sizeLine; decide), fun u nu => ?_⟩
        have s5 := same_upd (o := .tup [.str x.2.1, .str x.1, .int x.2.2.2]) nu
        refine ⟨D, xs, _, rfl, rfl, s5 _ _ d1, small1000 (by omega), ?_⟩
        obtain ⟨xs2, e1, e2⟩ := rows_add (r := [.str x.2.1, .str x.1, .int x.2.2.2]) d1 d2 nu
        have s6 := same_put (o := .lst (xs ++ [.ref u])) (s4.trans s5) nD
        have hg6 : (upd (upd H4 u (.tup [.str x.2.1, .str x.1, .int x.2.2.2])) D (.lst (xs ++ [.ref u]))) g = some (.lst gs) := by
          rw [upd_ne nDg]
          exact s5 _ _ hg4
        have k6 : Kt H4 (upd (upd H4 u (.tup [.str x.2.1, .str x.1, .int x.2.2.2])) D (.lst (xs ++ [.ref u]))) := (Kt.of s5).trans (kt_put (s5 _ _ d1))
        have hl2 : xs2.length ≤ 29 := by
          rw [e2.len, List.length_append, ← d2.len]
          show xs.length + 1 ≤ _
          omega
        refine ⟨_, rfl, .inl ⟨rfl, _, .inl (.inl e1)⟩, _, rfl, _, rfl, _, rfl, _, rfl, (by show 3 ≤ sizeLine; decide), fun r nr => ?_⟩
        have s7 := same_upd (o := .tup [.str x.1, .str x.2.1, .int (-x.2.2.1)]) nr
        refine ⟨D, xs2, _, rfl, rfl, s7 _ _ e1, small1000 (by omega), _, _, _, _, rfl, same_put (s6.trans s7) nD, by rw [upd_ne nDg]; exact s7 _ _ hg6, rg4.keep ((k6.trans (Kt.of s7)).trans (kt_put (s7 _ _ e1))), ?_⟩
        rw [fm_take _ ey]
        have := rows_add (r := [.str x.1, .str x.2.1, .int (-x.2.2.1)]) e1 e2 nr
        rw [List.append_assoc, List.append_assoc] at this
        exact this
      · rintro σ H4 ⟨y3, y4, y5, y6, rfl, s4, hg4, rg4, d⟩
        have e0 : (hs m.wd).take gs.length = hs m.wd := List.take_of_length_le (by rw [rg.len, List.length_map]; exact Nat.le_refl _)
        rw [e0] at d
        have l2 : (m.own.flatMap (mRows m.last) ++ (hs m.wd).flatMap h2Rows).length ≤ 28 := by
          have := fm_len h2Rows 2 (fun _ => Nat.le_refl _) (hs m.wd)
          rw [List.length_append]
          omega
        -- the ties
        have W4 := W.same s4
        obtain ⟨dx4, _, _, _, _, _, g4, _⟩ := W4.ex
        obtain ⟨xs0, d1', d2'⟩ := d
        refine ⟨_, rfl, p, dx4, _, rfl, g4, wf_no (by decide +kernel), p, m, rfl, W4, fun bs b R nb => ?_⟩
        have s5 := same_upd (o := .lst bs) nb
        have nDb : b ≠ D := (ne_of_none d1' nb).symm
        refine ⟨b, rfl, ⟨_, .inl (.inl upd_same)⟩, for_list (K := K) (a := b) (xs := bs) (fun i σ H6 => ∃ y7 : Option V, σ = [some (.ref p), some (.ref D), y, y3, y4, y5, y6, y7] ∧ Same H H6 ∧ H6 b = some (.lst bs) ∧ Rows H6 bs (m.bd.map Bd.row) ∧ RowsAt H6 D (m.own.flatMap (mRows m.last) ++ (hs m.wd).flatMap h2Rows ++ (m.bd.take i).flatMap (tieRows m.wd)))
          ⟨none, rfl, s4.trans s5, upd_same, R.keep (Kt.of s5), ?_⟩ (fun i σ H6 _ ⟨_, _, _, h, _⟩ => .inl (.inl h)) ?_ ?_⟩
        · show RowsAt _ D (_ ++ [])
          rw [List.append_nil]
          exact (RowsAt.same ⟨xs0, d1', d2'⟩ s5)
        · rintro i v σ H6 hv ⟨y7, rfl, s6, hb6, rb6, xs, d1, d2⟩
          obtain ⟨t, x, rfl, ey, ht⟩ := row_of rb6 hv
          have hi : i < m.bd.length := (List.getElem?_eq_some_iff.mp ey).1
          have hx := hpt x (List.mem_of_getElem? ey)
          have hxl : xs.length ≤ 108 := by
            rw [d2.len, List.length_append]
            have := fm_len (tieRows m.wd) 2 (tie_len m.wd) (m.bd.take i)
            rw [List.length_take] at this
            omega
          refine ⟨_, rfl, .inl ⟨rfl, _, .inl (.inl d1)⟩, _, rfl, _, rfl, p, t, m, x, rfl, W.same s6, ht, hx.1, hx.2, fun g H7 s7 ng R7 => ?_⟩
          obtain ⟨gs, e1, e2⟩ := R7
          have hgl : gs.length ≤ 2 := by
            rw [e2.len]
            exact tie_len _ _
          have dD := s7 _ _ d1
          refine ⟨D, g, xs, gs, rfl, rfl, dD, e1, Nat.le_of_lt (small1000 (by omega)), _, rfl, same_put (s6.trans s7) nD, by rw [upd_ne nDb]; exact s7 _ _ hb6, rb6.keep ((Kt.of s7).trans (kt_put dD)), ?_⟩
          rw [fm_take _ ey, ← List.append_assoc]
          exact ⟨_, upd_same, Rows.append ((d2.keep (Kt.of s7)).keep (kt_put dD)) (e2.keep (kt_put dD))⟩
        · rintro σ H6 ⟨y7, rfl, s6, hb6, rb6, d⟩
          have e0 : m.bd.take bs.length = m.bd := List.take_of_length_le (by rw [R.len, List.length_map]; exact Nat.le_refl _)
          rw [e0] at d
          exact ⟨_, rfl, q D H6 s6 nD d⟩
end
end Tw

set_option maxHeartbeats 4000000
namespace Tw
open PySem PySem.Spec PyProof.Rows L2
/-! ### ticks and lengths as functions -/
def stepC (gs : List Fn) (x : Wd) : List Fn := gs.flatMap fun g => (List.range (x.hi + 1 - x.lo).toNat).map fun (k : Nat) => setF g x.en (x.lo + (k : Int))
def cmbF (gs : List Fn) (l : List Wd) : List Fn := l.foldl stepC gs
def cmb (l : List Wd) : List Fn := cmbF [fun _ => none] l
theorem mem_step {gs : List Fn} {x : Wd} {g : Fn} : g ∈ stepC gs x ↔ ∃ g0 ∈ gs, ∃ v, x.lo ≤ v ∧ v ≤ x.hi ∧ g = setF g0 x.en v := by
  unfold stepC
  constructor
  · intro h
    obtain ⟨g0, h0, h⟩ := List.mem_flatMap.mp h
    obtain ⟨k, hk, rfl⟩ := List.mem_map.mp h
    have hk := List.mem_range.mp hk
    exact ⟨g0, h0, x.lo + k, by omega, by omega, rfl⟩
  · rintro ⟨g0, h0, v, h1, h2, rfl⟩
    refine List.mem_flatMap.mpr ⟨g0, h0, List.mem_map.mpr ⟨(v - x.lo).toNat, List.mem_range.mpr (by omega), ?_⟩⟩
    rw [show x.lo + ((v - x.lo).toNat : Int) = v by omega]
theorem cmb_sound : ∀ {l : List Wd} {gs : List Fn} {g : Fn}, (l.map (·.en)).Nodup → g ∈ cmbF gs l → ∃ g0 ∈ gs, (∀ z, ¬ z ∈ l.map (·.en) → g z = g0 z) ∧ ∀ x ∈ l, ∃ v, g x.en = some v ∧ x.lo ≤ v ∧ v ≤ x.hi
  | [], gs, g, _, h => ⟨g, h, fun _ _ => rfl, fun x hx => nomatch hx⟩
  | x :: l, gs, g, nd, h => by
    have nd : (x.en :: l.map (·.en)).Nodup := nd
    obtain ⟨n1, n2⟩ := List.nodup_cons.mp nd
    obtain ⟨g1, h1, e1, e2⟩ := cmb_sound (l := l) (gs := stepC gs x) n2 h
    obtain ⟨g0, h0, v, v1, v2, rfl⟩ := mem_step.mp h1
    refine ⟨g0, h0, fun z hz => ?_, fun y hy => ?_⟩
    · have hz : ¬ z ∈ x.en :: l.map (·.en) := hz
      rw [e1 z fun m => hz (List.mem_cons_of_mem _ m), setF_ne (fun e : z = x.en => hz (by rw [e]; exact List.mem_cons_self))]
    · rcases List.mem_cons.mp hy with rfl | hy
      · exact ⟨v, by rw [e1 _ n1, setF_same], v1, v2⟩
      · exact e2 y hy
theorem cmb_full (c : Str → Int) : ∀ {l : List Wd} {gs : List Fn} {g0 : Fn}, (l.map (·.en)).Nodup → g0 ∈ gs → (∀ x ∈ l, x.lo ≤ c x.en ∧ c x.en ≤ x.hi) → ∃ g ∈ cmbF gs l, (∀ z, ¬ z ∈ l.map (·.en) → g z = g0 z) ∧ ∀ x ∈ l, g x.en = some (c x.en)
  | [], gs, g0, _, h, _ => ⟨g0, h, fun _ _ => rfl, fun x hx => nomatch hx⟩
  | x :: l, gs, g0, nd, h, hc => by
    have nd : (x.en :: l.map (·.en)).Nodup := nd
    obtain ⟨n1, n2⟩ := List.nodup_cons.mp nd
    have hx := hc x List.mem_cons_self
    obtain ⟨g, h1, e1, e2⟩ := cmb_full c (l := l) (gs := stepC gs x) (g0 := setF g0 x.en (c x.en)) n2 (mem_step.mpr ⟨g0, h, c x.en, hx.1, hx.2, rfl⟩) fun y hy => hc y (List.mem_cons_of_mem _ hy)
    refine ⟨g, h1, fun z hz => ?_, fun y hy => ?_⟩
    · have hz : ¬ z ∈ x.en :: l.map (·.en) := hz
      rw [e1 z fun m => hz (List.mem_cons_of_mem _ m), setF_ne (fun e : z = x.en => hz (by rw [e]; exact List.mem_cons_self))]
    · rcases List.mem_cons.mp hy with rfl | hy
      · rw [e1 _ n1, setF_same]
      · exact e2 y hy
theorem step_len (gs : List Fn) (x : Wd) (n : Nat) (h : (x.hi + 1 - x.lo).toNat ≤ n) : (stepC gs x).length ≤ n * gs.length := by
  refine fm_len _ n (fun g => ?_) gs
  rw [List.length_map, List.length_range]
  exact h
/-- when each point comes, of the ticks of moments and of lengths -/
def stepK (g s : Fn) (f : Fn) (x : Wd) : Fn := match s x.en, g x.bg with
  | some v, some t => setF f x.en (t + v)
  | _, _ => f
def comeF (g s : Fn) (l : List Wd) : Fn := l.foldl (stepK g s) g
theorem stepK_ne {g s f : Fn} {x : Wd} {z : Str} (h : ¬ z = x.en) : stepK g s f x z = f z := by
  unfold stepK
  cases s x.en with
  | none => rfl
  | some v => cases g x.bg with
    | none => rfl
    | some t => exact setF_ne h
theorem foldK_out {g s : Fn} : ∀ {l : List Wd} {f : Fn} {z : Str}, ¬ z ∈ l.map (·.en) → l.foldl (stepK g s) f z = f z
  | [], _, _, _ => rfl
  | x :: l, f, z, h => by
    have h : ¬ z ∈ x.en :: l.map (·.en) := h
    rw [List.foldl_cons, foldK_out fun m => h (List.mem_cons_of_mem _ m), stepK_ne (fun e : z = x.en => h (by rw [e]; exact List.mem_cons_self))]
theorem foldK_in {g s : Fn} : ∀ {l : List Wd} {f : Fn} {x : Wd} {v t : Int}, (l.map (·.en)).Nodup → x ∈ l → s x.en = some v → g x.bg = some t → l.foldl (stepK g s) f x.en = some (t + v)
  | y :: l, f, x, v, t, nd, hx, e1, e2 => by
    have nd : (y.en :: l.map (·.en)).Nodup := nd
    obtain ⟨n1, n2⟩ := List.nodup_cons.mp nd
    rw [List.foldl_cons]
    rcases List.mem_cons.mp hx with rfl | hx
    · rw [foldK_out n1]
      unfold stepK
      rw [e1, e2]
      exact setF_same
    · exact foldK_in n2 hx e1 e2
/-- when each base comes -/
def stepH (g s : Fn) (f : Fn) (x : Wd) : Fn := match x.la with
  | none => f
  | some i => setF f x.en ((g x.bg).getD 0 + (s x.en).getD 0 + i)
def hdF (g s : Fn) (l : List Wd) : Fn := l.foldl (stepH g s) g
theorem stepH_ne {g s f : Fn} {x : Wd} {z : Str} (h : ¬ z = x.en) : stepH g s f x z = f z := by
  unfold stepH
  cases x.la with
  | none => rfl
  | some i => exact setF_ne h
theorem foldH_out {g s : Fn} : ∀ {l : List Wd} {f : Fn} {z : Str}, ¬ z ∈ l.map (·.en) → l.foldl (stepH g s) f z = f z
  | [], _, _, _ => rfl
  | x :: l, f, z, h => by
    have h : ¬ z ∈ x.en :: l.map (·.en) := h
    rw [List.foldl_cons, foldH_out fun m => h (List.mem_cons_of_mem _ m), stepH_ne (fun e : z = x.en => h (by rw [e]; exact List.mem_cons_self))]
theorem foldH_in {g s : Fn} : ∀ {l : List Wd} {f : Fn} {x : Wd} {i : Int}, (l.map (·.en)).Nodup → x ∈ l → x.la = some i → l.foldl (stepH g s) f x.en = some ((g x.bg).getD 0 + (s x.en).getD 0 + i)
  | y :: l, f, x, i, nd, hx, e1 => by
    have nd : (y.en :: l.map (·.en)).Nodup := nd
    obtain ⟨n1, n2⟩ := List.nodup_cons.mp nd
    rw [List.foldl_cons]
    rcases List.mem_cons.mp hx with rfl | hx
    · rw [foldH_out n1]
      unfold stepH
      rw [e1]
      exact setF_same
    · exact foldH_in n2 hx e1
theorem offW_out : ∀ {l : List Wd} {z : Str}, ¬ z ∈ l.map (·.en) → offW z l = (z, 0, 0)
  | [], _, _ => rfl
  | x :: l, z, h => by
    have h : ¬ z ∈ x.en :: l.map (·.en) := h
    show (if x.en = z then _ else _) = _
    rw [if_neg (fun e : x.en = z => h (by rw [e]; exact List.mem_cons_self))]
    exact offW_out fun m => h (List.mem_cons_of_mem _ m)
theorem offW_in : ∀ {l : List Wd} {x : Wd}, (l.map (·.en)).Nodup → x ∈ l → (x.la = none → offW x.en l = (x.bg, x.lo, x.hi)) ∧ ∀ i, x.la = some i → offW x.en l = (x.en, -i, -i)
  | y :: l, x, nd, hx => by
    have nd : (y.en :: l.map (·.en)).Nodup := nd
    obtain ⟨n1, n2⟩ := List.nodup_cons.mp nd
    rcases List.mem_cons.mp hx with rfl | hx
    · refine ⟨fun e => ?_, fun i e => ?_⟩ <;>
      · show (if x.en = x.en then _ else _) = _
        rw [if_pos rfl, e]
    · have hm : x.en ∈ l.map (·.en) := List.mem_map.mpr ⟨x, hx, rfl⟩
      have ne : ¬ y.en = x.en := fun e => n1 (by rw [e]; exact hm)
      obtain ⟨h1, h2⟩ := offW_in n2 hx
      refine ⟨fun e => ?_, fun i e => ?_⟩
      · show (if y.en = x.en then _ else _) = _
        rw [if_neg ne]
        exact h1 e
      · show (if y.en = x.en then _ else _) = _
        rw [if_neg ne]
        exact h2 i e
/-- a tie by two ticks -/
def tieB (x : Bd) (a b : Int) : Bool := (match x.bot with
  | none => true
  | some l => decide (l ≤ b - a)) && (match x.top with
  | none => true
  | some h => decide (b - a ≤ h))
def tieAt (x : Bd) (f : Fn) : Bool := match f x.one, f x.oth with
  | some a, some b => tieB x a b
  | _, _ => false
def hid (m : Md) (s : Fn) : List Wd := m.wd.filter fun x => (s x.en).isNone
def allB (m : Md) (g s : Fn) : Bool := (cmb (hid m s)).all fun h => m.bd.all fun x => tieAt x (comeF g (ov s h) m.wd)
/-- the told bounds as triples -/
def topT (a b : Str × Int × Int) : Option Int → List (Str × Str × Int)
  | none => []
  | some t => [(a.1, b.1, t - b.2.2 + a.2.1)]
def botT (a b : Str × Int × Int) : Option Int → List (Str × Str × Int)
  | none => []
  | some t => [(b.1, a.1, b.2.1 - a.2.2 - t)]
def tieT (wd : List Wd) (x : Bd) : List (Str × Str × Int) := topT (offW x.one wd) (offW x.oth wd) x.top ++ botT (offW x.one wd) (offW x.oth wd) x.bot
def bT (m : Md) : List (Str × Str × Int) := m.own.flatMap (fun z => [(("start" : Str), z, m.last), (z, ("start" : Str), 0)]) ++ (hs m.wd).flatMap (fun h => [(h.2.1, h.1, h.2.2.2), (h.1, h.2.1, -h.2.2.1)]) ++ m.bd.flatMap (tieT m.wd)
def bRow (r : Str × Str × Int) : List V := [.str r.1, .str r.2.1, .int r.2.2]
theorem bT_rows (m : Md) : bRows m = (bT m).map bRow := by
  unfold bRows bT
  rw [List.map_append, List.map_append, List.map_flatMap, List.map_flatMap, List.map_flatMap]
  have e : (fun x => (tieT m.wd x).map bRow) = tieRows m.wd := by
    funext x
    unfold tieT tieRows
    rw [List.map_append]
    cases x.top <;> cases x.bot <;> rfl
  rw [e]
  rfl
def rowB (f : Fn) (r : Str × Str × Int) : Bool := match f r.1, f r.2.1 with
  | some a, some b => decide (b - a ≤ r.2.2)
  | _, _ => false
/-! ### a point's base and what lies between -/
theorem dec_iff {p : Prop} [Decidable p] {b : Bool} (h : p ↔ b = true) : decide p = b := by
  cases b with
  | true => exact decide_eq_true (h.mpr rfl)
  | false => exact decide_eq_false fun hp => nomatch (h.mp hp)
theorem bool_iff {a b : Bool} (h : a = true ↔ b = true) : a = b := by
  cases a with
  | true => exact (h.mp rfl).symm
  | false => cases b with
    | false => rfl
    | true => exact h.mpr rfl
/-- ticks of start and moments, lengths of spans that are heard -/
structure Tk (m : Md) (g s : Fn) : Prop where
  start : g "start" = some 0
  own : ∀ z ∈ m.own, ∃ v, g z = some v
  ends : ∀ z ∈ m.wd.map (·.en), g z = none
  qui : ∀ x ∈ m.wd, x.la = none → s x.en = none
  hrd : ∀ x ∈ m.wd, ∀ i, x.la = some i → ∃ v, s x.en = some v ∧ x.lo ≤ v ∧ v ≤ x.hi
theorem Tk.bg {m : Md} {g s : Fn} (k : Tk m g s) {x : Wd} (h : WdOk m.own x) : ∃ v, g x.bg = some v := by
  rcases h.bg with e | e
  · exact ⟨0, by rw [e]; exact k.start⟩
  · exact k.own _ e
theorem Tk.bg_out {m : Md} {g s : Fn} (k : Tk m g s) {x : Wd} (h : WdOk m.own x) : ¬ x.bg ∈ m.wd.map (·.en) := fun hm => by
  obtain ⟨v, e⟩ := k.bg h
  rw [k.ends _ hm] at e
  cases e
theorem ends_nd {m : Md} (ok : MdOk m) : (m.wd.map (·.en)).Nodup := (List.nodup_append.mp ok.nd).2.1
theorem hid_sub {m : Md} {s : Fn} : (hid m s).Sublist m.wd := List.filter_sublist
theorem hid_nd {m : Md} {s : Fn} (ok : MdOk m) : ((hid m s).map (·.en)).Nodup := (ends_nd ok).sublist (hid_sub.map _)
theorem same_en {m : Md} (ok : MdOk m) {x y : Wd} (hx : x ∈ m.wd) (hy : y ∈ m.wd) (e : x.en = y.en) : x = y := by
  have nd := ends_nd ok
  generalize m.wd = l at hx hy nd
  induction l with
  | nil => cases hx
  | cons a l ih =>
    have nd : (a.en :: l.map (·.en)).Nodup := nd
    obtain ⟨n1, n2⟩ := List.nodup_cons.mp nd
    rcases List.mem_cons.mp hx with h1 | h1
    · rcases List.mem_cons.mp hy with h2 | h2
      · rw [h1, h2]
      · exact absurd (List.mem_map.mpr ⟨y, h2, by rw [← e, h1]⟩) n1
    · rcases List.mem_cons.mp hy with h2 | h2
      · exact absurd (List.mem_map.mpr ⟨x, h1, by rw [e, h2]⟩) n1
      · exact ih h1 h2 n2
theorem pt_kind {m : Md} {z : Str} (h : z ∈ m.pts) : ((z = "start" ∨ z ∈ m.own) ∧ ¬ z ∈ m.wd.map (·.en)) ∨ ∃ x ∈ m.wd, x.en = z := by
  by_cases e : z ∈ m.wd.map (·.en)
  · obtain ⟨x, hx, e⟩ := List.mem_map.mp e
    exact .inr ⟨x, hx, e⟩
  · refine .inl ⟨?_, e⟩
    rcases List.mem_cons.mp h with h | h
    · exact .inl h
    · rcases List.mem_append.mp h with h | h
      · exact .inr h
      · exact absurd h e
/-- a choice of lengths that are never heard -/
def Cho (m : Md) (s h : Fn) : Prop := (∀ z, ¬ z ∈ (hid m s).map (·.en) → h z = none) ∧ ∀ x ∈ hid m s, ∃ v, h x.en = some v ∧ x.lo ≤ v ∧ v ≤ x.hi
theorem cho_of {m : Md} {s h : Fn} (ok : MdOk m) (hh : h ∈ cmb (hid m s)) : Cho m s h := by
  obtain ⟨g0, h0, e1, e2⟩ := cmb_sound (hid_nd ok) hh
  have h0 := List.mem_singleton.mp h0
  subst h0
  exact ⟨e1, e2⟩
/-- the place of a point: its base comes at t, itself within lo and hi of it -/
theorem pt_at {m : Md} {g s : Fn} (ok : MdOk m) (k : Tk m g s) {z : Str} (hz : z ∈ m.pts) :
    ∃ t, hdF g s m.wd (offW z m.wd).1 = some t ∧ (offW z m.wd).2.1 ≤ (offW z m.wd).2.2 ∧
      (∀ h, Cho m s h → ∃ d, (offW z m.wd).2.1 ≤ d ∧ d ≤ (offW z m.wd).2.2 ∧ comeF g (ov s h) m.wd z = some (t + d)) ∧
      ∀ (h : Fn) (up : Bool), (∀ x ∈ hid m s, x.en = z → h z = some (if up then x.hi else x.lo)) → Cho m s h → comeF g (ov s h) m.wd z = some (t + (if up then (offW z m.wd).2.2 else (offW z m.wd).2.1)) := by
  have nd := ends_nd ok
  rcases pt_kind hz with ⟨hk, ho⟩ | ⟨x, hx, rfl⟩
  · obtain ⟨t, ht⟩ : ∃ t, g z = some t := by
      rcases hk with rfl | hk
      · exact ⟨0, k.start⟩
      · exact k.own _ hk
    rw [offW_out ho]
    have hc : ∀ h, comeF g (ov s h) m.wd z = some t := fun h => by
      unfold comeF
      rw [foldK_out ho, ht]
    refine ⟨t, ?_, Int.le_refl _, fun h _ => ⟨0, Int.le_refl _, Int.le_refl _, by rw [hc, Int.add_zero]⟩, fun h up _ _ => ?_⟩
    · unfold hdF
      rw [foldH_out ho, ht]
    · rw [hc]
      cases up <;> exact congrArg some (Int.add_zero t).symm
  · have wo := ok.wd x hx
    obtain ⟨b, hb⟩ := k.bg wo
    have bo := k.bg_out wo
    cases el : x.la with
    | none =>
      have sn := k.qui x hx el
      have hm : x ∈ hid m s := List.mem_filter.mpr ⟨hx, by rw [sn]; rfl⟩
      rw [(offW_in nd hx).1 el]
      have hc : ∀ (h : Fn) v, h x.en = some v → comeF g (ov s h) m.wd x.en = some (b + v) := fun h v e => foldK_in nd hx (by unfold ov; rw [e]) hb
      refine ⟨b, ?_, wo.hi, fun h c => ?_, fun h up e c => ?_⟩
      · unfold hdF
        rw [foldH_out bo, hb]
      · obtain ⟨v, e, v1, v2⟩ := c.2 x hm
        exact ⟨v, v1, v2, hc h v e⟩
      · rw [hc h _ (e x hm rfl)]
    | some i =>
      obtain ⟨v, sv, v1, v2⟩ := k.hrd x hx i el
      rw [(offW_in nd hx).2 i el]
      have hm : ¬ x.en ∈ (hid m s).map (·.en) := fun hm => by
        obtain ⟨y, hy, e⟩ := List.mem_map.mp hm
        have := (List.mem_filter.mp hy).2
        rw [e, sv] at this
        cases this
      have hc : ∀ h : Fn, Cho m s h → comeF g (ov s h) m.wd x.en = some (b + v) := fun h c => foldK_in nd hx (by unfold ov; rw [c.1 _ hm, sv]) hb
      have hh : hdF g s m.wd x.en = some (b + v + i) := by
        unfold hdF
        rw [foldH_in nd hx el, hb, sv]
        rfl
      refine ⟨b + v + i, hh, Int.le_refl _, fun h c => ⟨-i, Int.le_refl _, Int.le_refl _, ?_⟩, fun h up _ c => ?_⟩
      · rw [hc h c]
        exact congrArg some (by omega)
      · rw [hc h c]
        cases up <;> exact congrArg some (by show b + v = b + v + i + -i; omega)
theorem cho_pick {m : Md} {s : Fn} (ok : MdOk m) (up : Str → Bool) : ∃ h ∈ cmb (hid m s), ∀ x ∈ hid m s, h x.en = some (if up x.en then x.hi else x.lo) := by
  obtain ⟨h, hh, _, e⟩ := cmb_full (fun z => match m.wd.find? (fun x => decide (x.en = z)) with
      | some x => if up z then x.hi else x.lo
      | none => 0) (l := hid m s) (gs := [fun _ => none]) (g0 := fun _ => none) (hid_nd ok) List.mem_cons_self (fun x hx => by
    have hm := hid_sub.subset hx
    obtain ⟨y, hy⟩ : ∃ y, m.wd.find? (fun w => decide (w.en = x.en)) = some y := by
      cases e : m.wd.find? (fun w => decide (w.en = x.en)) with
      | some y => exact ⟨y, rfl⟩
      | none =>
        have := List.find?_eq_none.mp e x hm
        simp at this
    have e1 : y.en = x.en := by simpa using List.find?_some hy
    have e2 := same_en ok (List.mem_of_find?_eq_some hy) hm e1
    subst e2
    show (y.lo ≤ (match m.wd.find? (fun w => decide (w.en = y.en)) with
      | some x => if up y.en then x.hi else x.lo
      | none => 0)) ∧ (match m.wd.find? (fun w => decide (w.en = y.en)) with
      | some x => if up y.en then x.hi else x.lo
      | none => 0) ≤ y.hi
    rw [hy]
    have := (ok.wd y hm).hi
    cases up y.en with
    | true => exact ⟨this, Int.le_refl _⟩
    | false => exact ⟨Int.le_refl _, this⟩)
  refine ⟨h, hh, fun x hx => ?_⟩
  rw [e x hx]
  have hm := hid_sub.subset hx
  obtain ⟨y, hy⟩ : ∃ y, m.wd.find? (fun w => decide (w.en = x.en)) = some y := by
    cases e : m.wd.find? (fun w => decide (w.en = x.en)) with
    | some y => exact ⟨y, rfl⟩
    | none =>
      have := List.find?_eq_none.mp e x hm
      simp at this
  have e1 : y.en = x.en := by simpa using List.find?_some hy
  have e2 := same_en ok (List.mem_of_find?_eq_some hy) hm e1
  rw [hy, e2]
theorem rowB_at {f : Fn} {a b : Str} {c x y : Int} (h1 : f a = some x) (h2 : f b = some y) : rowB f (a, b, c) = decide (y - x ≤ c) := by
  unfold rowB
  rw [h1, h2]
theorem tieAt_at {f : Fn} {x : Bd} {a b : Int} (h1 : f x.one = some a) (h2 : f x.oth = some b) : tieAt x f = tieB x a b := by
  unfold tieAt
  rw [h1, h2]
theorem tie_all {m : Md} {g s : Fn} (ok : MdOk m) (k : Tk m g s) {x : Bd} (hx : BdOk m.pts x) :
    (tieT m.wd x).all (rowB (hdF g s m.wd)) = (cmb (hid m s)).all fun h => tieAt x (comeF g (ov s h) m.wd) := by
  obtain ⟨ta, a1, a2, a3, a4⟩ := pt_at ok k hx.one
  obtain ⟨tb, b1, b2, b3, b4⟩ := pt_at ok k hx.oth
  have e : (tieT m.wd x).all (rowB (hdF g s m.wd)) = ((match x.top with
      | none => true
      | some t => decide (tb + (offW x.oth m.wd).2.2 - (ta + (offW x.one m.wd).2.1) ≤ t)) && (match x.bot with
      | none => true
      | some t => decide (t ≤ tb + (offW x.oth m.wd).2.1 - (ta + (offW x.one m.wd).2.2)))) := by
    unfold tieT
    rw [List.all_append]
    congr 1
    · cases x.top with
      | none => rfl
      | some t =>
        show (rowB _ _ && true) = _
        rw [Bool.and_true, rowB_at a1 b1]
        exact decide_eq_decide.mpr (by omega)
    · cases x.bot with
      | none => rfl
      | some t =>
        show (rowB _ _ && true) = _
        rw [Bool.and_true, rowB_at b1 a1]
        exact decide_eq_decide.mpr (by omega)
  rw [e]
  refine bool_iff ⟨fun h => ?_, fun h => ?_⟩
  · refine List.all_eq_true.mpr fun c hc => ?_
    have hc := cho_of ok hc
    obtain ⟨da, p1, p2, p3⟩ := a3 c hc
    obtain ⟨db, q1, q2, q3⟩ := b3 c hc
    rw [tieAt_at p3 q3]
    unfold tieB
    obtain ⟨h1, h2⟩ := (Bool.and_eq_true _ _).mp h |> fun z => z
    refine (Bool.and_eq_true _ _).mpr ⟨?_, ?_⟩
    · cases eb : x.bot with
      | none => rfl
      | some t =>
        rw [eb] at h2
        have h2 := of_decide_eq_true h2
        exact decide_eq_true (by omega)
    · cases et : x.top with
      | none => rfl
      | some t =>
        rw [et] at h1
        have h1 := of_decide_eq_true h1
        exact decide_eq_true (by omega)
  · have h := List.all_eq_true.mp h
    have no : ¬ x.oth = x.one := fun e => hx.ne e.symm
    refine (Bool.and_eq_true _ _).mpr ⟨?_, ?_⟩
    · cases et : x.top with
      | none => rfl
      | some t =>
        obtain ⟨c, hc, pc⟩ := cho_pick (s := s) ok (fun z => decide (z = x.oth))
        have ch := cho_of ok hc
        have e1 := a4 c false (fun y hy e => by rw [← e, pc y hy, e, decide_eq_false hx.ne]) ch
        have e2 := b4 c true (fun y hy e => by rw [← e, pc y hy, e, decide_eq_true rfl]) ch
        have := h c hc
        rw [tieAt_at e1 e2] at this
        unfold tieB at this
        have := ((Bool.and_eq_true _ _).mp this).2
        rw [et] at this
        exact this
    · cases et : x.bot with
      | none => rfl
      | some t =>
        obtain ⟨c, hc, pc⟩ := cho_pick (s := s) ok (fun z => decide (z = x.one))
        have ch := cho_of ok hc
        have e1 := a4 c true (fun y hy e => by rw [← e, pc y hy, e, decide_eq_true rfl]) ch
        have e2 := b4 c false (fun y hy e => by rw [← e, pc y hy, e, decide_eq_false no]) ch
        have := h c hc
        rw [tieAt_at e1 e2] at this
        unfold tieB at this
        have := ((Bool.and_eq_true _ _).mp this).1
        rw [et] at this
        exact this
theorem all_swap {α β : Type} (p : α → β → Bool) (l : List α) (r : List β) : (l.all fun a => r.all fun b => p a b) = (r.all fun b => l.all fun a => p a b) := by
  refine bool_iff ⟨fun h => ?_, fun h => ?_⟩
  · exact List.all_eq_true.mpr fun b hb => List.all_eq_true.mpr fun a ha => List.all_eq_true.mp (List.all_eq_true.mp h a ha) b hb
  · exact List.all_eq_true.mpr fun a ha => List.all_eq_true.mpr fun b hb => List.all_eq_true.mp (List.all_eq_true.mp h b hb) a ha
def goodF (m : Md) (g : Fn) : Bool := m.own.all fun z => match g z with
  | some v => decide (0 ≤ v ∧ v ≤ m.last)
  | none => false
theorem all_flat {α β : Type} (p : β → Bool) (f : α → List β) (l : List α) : (l.flatMap f).all p = l.all fun a => (f a).all p := by
  induction l with
  | nil => rfl
  | cons a l ih => rw [List.flatMap_cons, List.all_append, ih, List.all_cons]
theorem all_ext {α : Type} {p q : α → Bool} : ∀ {l : List α}, (∀ a ∈ l, p a = q a) → l.all p = l.all q
  | [], _ => rfl
  | a :: l, h => by rw [List.all_cons, List.all_cons, h a List.mem_cons_self, all_ext fun b hb => h b (List.mem_cons_of_mem _ hb)]
theorem own_out {m : Md} (ok : MdOk m) {z : Str} (h : z ∈ m.own) : ¬ z ∈ m.wd.map (·.en) := fun h2 => (List.nodup_append.mp ok.nd).2.2 z h z h2 rfl
theorem start_out {m : Md} (ok : MdOk m) : ¬ ("start" : Str) ∈ m.wd.map (·.en) := fun h => (pool_nm (ok.pool _ (List.mem_append_right _ h))).2 rfl
theorem whole {m : Md} {g s : Fn} (ok : MdOk m) (k : Tk m g s) : (bT m).all (rowB (hdF g s m.wd)) = (goodF m g && allB m g s) := by
  have fo : ∀ z, ¬ z ∈ m.wd.map (·.en) → hdF g s m.wd z = g z := fun z h => by
    unfold hdF
    rw [foldH_out h]
  have f0 : hdF g s m.wd "start" = some 0 := by rw [fo _ (start_out ok), k.start]
  unfold bT
  rw [List.all_append, List.all_append, all_flat, all_flat, all_flat]
  have e1 : (m.own.all fun z => [(("start" : Str), z, m.last), (z, ("start" : Str), 0)].all (rowB (hdF g s m.wd))) = goodF m g := all_ext fun z hz => by
    obtain ⟨v, e⟩ := k.own z hz
    have fz : hdF g s m.wd z = some v := by rw [fo _ (own_out ok hz), e]
    show (rowB _ _ && (rowB _ _ && true)) = _
    rw [Bool.and_true, rowB_at f0 fz, rowB_at fz f0, e]
    refine bool_iff ?_
    simp only [Bool.and_eq_true, decide_eq_true_eq]
    omega
  have e2 : ((hs m.wd).all fun h => [(h.2.1, h.1, h.2.2.2), (h.1, h.2.1, -h.2.2.1)].all (rowB (hdF g s m.wd))) = true := List.all_eq_true.mpr fun h hh => by
    obtain ⟨x, hx, e⟩ := List.mem_filterMap.mp hh
    cases el : x.la with
    | none =>
      rw [el] at e
      cases e
    | some i =>
      rw [el] at e
      cases e
      obtain ⟨v, sv, v1, v2⟩ := k.hrd x hx i el
      obtain ⟨b, hb⟩ := k.bg (ok.wd x hx)
      have h1 : hdF g s m.wd x.bg = some b := by rw [fo _ (k.bg_out (ok.wd x hx)), hb]
      have h2 : hdF g s m.wd x.en = some (b + v + i) := by
        unfold hdF
        rw [foldH_in (ends_nd ok) hx el, hb, sv]
        rfl
      show (rowB _ _ && (rowB _ _ && true)) = true
      rw [Bool.and_true, rowB_at h1 h2, rowB_at h2 h1]
      simp only [Bool.and_eq_true, decide_eq_true_eq]
      omega
  have e3 : (m.bd.all fun x => (tieT m.wd x).all (rowB (hdF g s m.wd))) = allB m g s := by
    unfold allB
    rw [all_swap]
    exact all_ext fun x hx => tie_all ok k (ok.bd x hx)
  rw [e1, e2, e3, Bool.and_true]
/-- all names of the told bounds are bases -/
theorem bT_in {m : Md} {g s : Fn} (ok : MdOk m) (k : Tk m g s) : ∀ r ∈ bT m, (∃ v, hdF g s m.wd r.1 = some v) ∧ ∃ v, hdF g s m.wd r.2.1 = some v := by
  have fo : ∀ z, ¬ z ∈ m.wd.map (·.en) → hdF g s m.wd z = g z := fun z h => by
    unfold hdF
    rw [foldH_out h]
  have f0 : hdF g s m.wd "start" = some 0 := by rw [fo _ (start_out ok), k.start]
  intro r hr
  unfold bT at hr
  rcases List.mem_append.mp hr with h | h
  · rcases List.mem_append.mp h with h | h
    · obtain ⟨z, hz, h⟩ := List.mem_flatMap.mp h
      obtain ⟨v, e⟩ := k.own z hz
      have fz : hdF g s m.wd z = some v := by rw [fo _ (own_out ok hz), e]
      simp only [List.mem_cons, List.not_mem_nil, or_false] at h
      rcases h with rfl | rfl
      · exact ⟨⟨_, f0⟩, _, fz⟩
      · exact ⟨⟨_, fz⟩, _, f0⟩
    · obtain ⟨y, hy, h⟩ := List.mem_flatMap.mp h
      obtain ⟨x, hx, e⟩ := List.mem_filterMap.mp hy
      cases el : x.la with
      | none =>
        rw [el] at e
        cases e
      | some i =>
        rw [el] at e
        cases e
        obtain ⟨b, hb⟩ := k.bg (ok.wd x hx)
        have h1 : hdF g s m.wd x.bg = some b := by rw [fo _ (k.bg_out (ok.wd x hx)), hb]
        have h2 : ∃ v, hdF g s m.wd x.en = some v := ⟨_, foldH_in (ends_nd ok) hx el⟩
        simp only [List.mem_cons, List.not_mem_nil, or_false] at h
        rcases h with rfl | rfl
        · exact ⟨⟨_, h1⟩, h2⟩
        · exact ⟨h2, _, h1⟩
  · obtain ⟨x, hx, h⟩ := List.mem_flatMap.mp h
    obtain ⟨ta, a1, _⟩ := pt_at ok k (ok.bd x hx).one
    obtain ⟨tb, b1, _⟩ := pt_at ok k (ok.bd x hx).oth
    unfold tieT at h
    rcases List.mem_append.mp h with h | h
    · cases e : x.top with
      | none =>
        rw [e] at h
        cases h
      | some i =>
        rw [e] at h
        have h := List.mem_singleton.mp h
        subst h
        exact ⟨⟨_, a1⟩, _, b1⟩
    · cases e : x.bot with
      | none =>
        rw [e] at h
        cases h
      | some i =>
        rw [e] at h
        have h := List.mem_singleton.mp h
        subst h
        exact ⟨⟨_, b1⟩, _, a1⟩
/-- all points of ties come -/
theorem come_in {m : Md} {g s : Fn} (ok : MdOk m) (k : Tk m g s) {h : Fn} (c : Cho m s h) {z : Str} (hz : z ∈ m.pts) : ∃ v, comeF g (ov s h) m.wd z = some v := by
  obtain ⟨t, _, _, a, _⟩ := pt_at ok k hz
  obtain ⟨d, _, _, e⟩ := a h c
  exact ⟨_, e⟩
end Tw

set_option maxHeartbeats 4000000
namespace Tw
open PySem PySem.Spec PyProof.Rows L2
section
variable {P : Program} {w : World} {K : PySem.W.Frag} {mg : Str → Option Value} {base : Heap}
/-! ### _law_tie_holds -/
def sp_tieh : Sp := fun vs H Q _ => ∃ (t d : Addr) (x : Bd) (g : Fn) (n : Nat) (a b : Int), vs = [.ref t, .ref d] ∧ H t = some (.tup x.row) ∧ DFn H d g n ∧ g x.one = some a ∧ g x.oth = some b ∧ Q (.bl (tieB x a b)) H
theorem cal__law_tie_holds (T : Tp K mg) : Cal P w K mg base 2 "_law_tie_holds" sp_tieh := by
  obtain ⟨fd, F⟩ := f__law_tie_holds T
  refine cal_of F (g__law_tie_holds T) (b__law_tie_holds F) sc__law_tie_holds (fun vs H Q E h => ?_) (fun cdv A outer s H vs Q E hr h => ?_)
  · obtain ⟨t, d, x, g, n, a, b, rfl, _⟩ := h
    rfl
  · obtain ⟨t, d, x, g, n, a, b, rfl, ht, D, e1, e2, q⟩ := h
    have hu := hu_of hr
    refine ⟨_, (pss_cons (ps_asg (pv 0) (pg_tup rfl (pgs_cons (pg_name (i := 2) sc__law_tie_holds.nd rfl (.inl rfl)) (pgs_cons (pg_name (i := 3) sc__law_tie_holds.nd rfl (.inl rfl)) (pgs_cons (pg_name (i := 4) sc__law_tie_holds.nd rfl (.inl rfl)) (pgs_cons (pg_name (i := 5) sc__law_tie_holds.nd rfl (.inl rfl)) pgs_nil))))))
      (pss_cons (ps_set (i := 6) sc__law_tie_holds.nd rfl (.inl rfl) (pe_op op_sub (pe_dget hu (pv 1) (pv 3) (fun _ _ => rfl)) (pe_dget hu (pv 1) (pv 2) (fun _ _ => rfl))))
      (pss_cons (ps_if (PW.pt (pw_and (pt_cmpR op_notN (pv 4) pe_non (nomark _)) (pw_and1 (pt_cmpR op_lt (pv 6) (pv 4) (nomark _))))) (pss_one (ps_ret pe_bl)) pss_nil)
      (pss_one (ps_ret (pe_or (pe_cmpR op_isN (pv 5) pe_non (nomark _)) (pe_one (pe_cmpR op_le (pv 6) (pv 5) (nomark _))))))))), ?_⟩
    refine ⟨_, rfl, t, x.row, rfl, .inl (.inl ht), rfl, _, _, rfl, _, _, rfl, _, _, rfl, _, _, rfl, rfl, ?_⟩
    refine ⟨_, rfl, _, rfl, d, _, rfl, D.at e2, _, rfl, _, rfl, d, _, rfl, D.at e1, b, a, rfl, rfl, ?_⟩
    refine ⟨_, rfl, rfl, _, rfl, ?_⟩
    rw [oV_non]
    unfold tieB at q
    cases eb : x.bot with
    | none =>
      rw [eb] at q
      have q : Q (V.bl (match x.top with
        | none => true
        | some h => decide (b - a ≤ h))) H := q
      refine iteF (iteF ⟨_, rfl, rfl, _, rfl, ?_⟩)
      rw [oV_non]
      cases et : x.top with
      | none =>
        rw [et] at q
        exact iteT q
      | some h =>
        rw [et] at q
        exact iteF ⟨_, rfl, _, rfl, b - a, h, rfl, rfl, q⟩
    | some l =>
      rw [eb] at q
      have q : Q (V.bl (decide (l ≤ b - a) && match x.top with
        | none => true
        | some h => decide (b - a ≤ h))) H := q
      refine iteT ⟨_, rfl, _, rfl, b - a, l, rfl, rfl, _, rfl, ?_⟩
      by_cases c : l ≤ b - a
      · rw [decide_eq_true c, Bool.true_and] at q
        rw [decide_eq_false (by omega : ¬ b - a < l)]
        refine iteF ⟨_, rfl, rfl, _, rfl, ?_⟩
        rw [oV_non]
        cases et : x.top with
        | none =>
          rw [et] at q
          exact iteT q
        | some h =>
          rw [et] at q
          exact iteF ⟨_, rfl, _, rfl, b - a, h, rfl, rfl, q⟩
      · rw [decide_eq_false c, Bool.false_and] at q
        rw [decide_eq_true (by omega : b - a < l)]
        exact iteT q
/-! ### _law_bounds_hold -/
def sp_bndh : Sp := fun vs H Q _ => ∃ (L d : Addr) (ts : List (Str × Str × Int)) (g : Fn) (n : Nat), vs = [.ref L, .ref d] ∧ RowsAt H L (ts.map bRow) ∧ DFn H d g n ∧ (∀ r ∈ ts, (∃ v, g r.1 = some v) ∧ ∃ v, g r.2.1 = some v) ∧ Q (.bl (ts.all (rowB g))) H
theorem cal__law_bounds_hold (T : Tp K mg) : Cal P w K mg base 2 "_law_bounds_hold" sp_bndh := by
  obtain ⟨fd, F⟩ := f__law_bounds_hold T
  refine cal_of F (g__law_bounds_hold T) (b__law_bounds_hold F) sc__law_bounds_hold (fun vs H Q E h => ?_) (fun cdv A outer s H vs Q E hr h => ?_)
  · obtain ⟨L, d, ts, g, n, rfl, _⟩ := h
    rfl
  · obtain ⟨L, d, ts, g, n, rfl, ⟨xs, hL, R⟩, D, hin, q⟩ := h
    have hu := hu_of hr
    refine ⟨_, (pss_cons (ps_for PassesOwn.never rfl (pi_list (pv 0)) (pg_tup rfl (pgs_cons (pg_name (i := 2) sc__law_bounds_hold.nd rfl (.inl rfl)) (pgs_cons (pg_name (i := 3) sc__law_bounds_hold.nd rfl (.inl rfl)) (pgs_cons (pg_name (i := 4) sc__law_bounds_hold.nd rfl (.inl rfl)) pgs_nil))))
        (pss_one (ps_if (pt_cmpR op_gt (pe_op op_sub (pe_dget hu (pv 1) (pv 3) (fun _ _ => rfl)) (pe_dget hu (pv 1) (pv 2) (fun _ _ => rfl))) (pv 4) (nomark _)) (pss_one (ps_ret pe_bl)) pss_nil)))
      (pss_one (ps_ret pe_bl))), ?_⟩
    refine ⟨_, rfl, L, rfl, ⟨_, .inl (.inl hL)⟩, for_list (K := K) (a := L) (xs := xs) (fun i σ H2 => H2 = H ∧ ts.all (rowB g) = (ts.drop i).all (rowB g) ∧ ∃ y2 y3 y4 : Option V, σ = [some (.ref L), some (.ref d), y2, y3, y4]) ⟨rfl, rfl, none, none, none, rfl⟩ (fun i σ H2 _ h => by rw [h.1]; exact .inl (.inl hL)) ?_ ?_⟩
    · rintro i x σ H2 hx ⟨rfl, ha, y2, y3, y4, rfl⟩
      obtain ⟨t, r, rfl, er, ht⟩ := row_of R hx
      rw [drop_cons er, List.all_cons] at ha
      obtain ⟨⟨a, e1⟩, b, e2⟩ := hin r (List.mem_of_getElem? er)
      refine ⟨t, bRow r, rfl, .inl (.inl ht), rfl, _, _, rfl, _, _, rfl, _, _, rfl, rfl, ?_⟩
      refine ⟨_, rfl, _, rfl, d, _, rfl, D.at e2, _, rfl, _, rfl, d, _, rfl, D.at e1, b, a, rfl, rfl, ?_⟩
      refine ⟨_, rfl, b - a, r.2.2, rfl, rfl, _, rfl, ?_⟩
      have er2 : rowB g r = decide (b - a ≤ r.2.2) := rowB_at e1 e2
      rw [er2] at ha
      by_cases c : b - a ≤ r.2.2
      · rw [decide_eq_true c, Bool.true_and] at ha
        rw [decide_eq_false (by omega : ¬ r.2.2 < b - a)]
        exact iteF ⟨rfl, ha, _, _, _, rfl⟩
      · rw [decide_eq_false c, Bool.false_and] at ha
        rw [ha] at q
        rw [decide_eq_true (by omega : r.2.2 < b - a)]
        exact iteT q
    · rintro σ H2 ⟨rfl, ha, y2, y3, y4, rfl⟩
      rw [List.drop_of_length_le (by rw [R.len, List.length_map]; exact Nat.le_refl _)] at ha
      rw [ha] at q
      exact q
/-! ### _law_come -/
def sp_come : Sp := fun vs H Q _ => ∃ (d k e : Addr) (m : Md) (g s : Fn) (n n' : Nat), vs = [.ref d, .ref k, .ref e] ∧ MdAt H d m ∧ DFn H k g n ∧ DFn H e s n' ∧ n + m.wd.length ≤ 1000 ∧ ∀ (p : Addr) (H' : Hp), Same H H' → H p = none → DFn H' p (comeF g s m.wd) (n + m.wd.length) → Q (.ref p) H'
theorem cal__law_come (T : Tp K mg) : Cal P w K mg base 2 "_law_come" sp_come := by
  obtain ⟨fd, F⟩ := f__law_come T
  refine cal_of F (g__law_come T) (b__law_come F) sc__law_come (fun vs H Q E h => ?_) (fun cdv A outer s H vs Q E hr h => ?_)
  · obtain ⟨d, k, e, m, g, s', n, n', rfl, _⟩ := h
    rfl
  · obtain ⟨d, k, e, m, g, sz, n, n', rfl, M, D, S, hn, q⟩ := h
    have hu := hu_of hr
    refine ⟨_, (pss_cons (ps_set (i := 3) sc__law_come.nd rfl (.inl rfl) (pe_callTy call_dictD (by rfl) (z_dict T) bb_dict (pa_cons (pv 1) pa_nil)))
      (pss_cons (ps_for PassesOwn.never rfl (pi_list (pe_dget hu (pv 0) pe_str (fun _ _ => rfl))) (pg_tup rfl (pgs_cons (pg_name (i := 4) sc__law_come.nd rfl (.inl rfl)) (pgs_cons (pg_name (i := 5) sc__law_come.nd rfl (.inl rfl)) (pgs_cons (pg_name (i := 6) sc__law_come.nd rfl (.inl rfl)) (pgs_cons (pg_name (i := 7) sc__law_come.nd rfl (.inl rfl)) (pgs_cons (pg_name (i := 8) sc__law_come.nd rfl (.inl rfl)) pgs_nil))))))
        (pss_one (ps_if (PW.pt (pw_and (pt_cmp (pc_din hu (pv 4) (pv 2)) (by rfl)) (pw_and1 (pt_cmp (pc_din hu (pv 5) (pv 1)) (by rfl))))) (pss_one (ps_dput hu (pv 3) (pv 4) (pe_op op_add (pe_dget hu (pv 1) (pv 5) (fun _ _ => rfl)) (pe_dget hu (pv 2) (pv 4) (fun _ _ => rfl))) rfl)) pss_nil)))
      (pss_one (ps_ret (pv 3))))), ?_⟩
    obtain ⟨kvs, a1, a2, a3⟩ := D
    refine ⟨_, rfl, k, kvs, rfl, .inl a1, fun p np => ?_⟩
    have s1 := same_upd (o := .dK kvs) np
    obtain ⟨o, u, b, ws, bs, h1, h2, h3, h4, h5, h6, h7⟩ := (M.same s1).ex
    refine ⟨_, rfl, d, _, rfl, mk_wd h1, u, rfl, ⟨_, .inl (.inl h3)⟩, for_list (K := K) (a := u) (xs := ws) (fun i σ H2 => Same H H2 ∧ DFn H2 p ((m.wd.take i).foldl (stepK g sz) g) (n + i) ∧ H2 u = some (.lst ws) ∧ Rows H2 ws (m.wd.map Wd.row) ∧ ∃ y4 y5 y6 y7 y8 : Option V, σ = [some (.ref d), some (.ref k), some (.ref e), some (.ref p), y4, y5, y6, y7, y8]) ⟨s1, ⟨kvs, upd_same, a2, a3⟩, h3, h4, none, none, none, none, none, rfl⟩ (fun i σ H2 _ h => .inl (.inl h.2.2.1)) ?_ ?_⟩
    · rintro i x σ H2 hx ⟨s2, D2, hu2, R2, y4, y5, y6, y7, y8, rfl⟩
      obtain ⟨t, y, rfl, ey, ht⟩ := row_of R2 hx
      have hi : i < m.wd.length := (List.getElem?_eq_some_iff.mp ey).1
      have Dk : DFn H2 k g n := DFn.same ⟨kvs, a1, a2, a3⟩ s2
      have De := S.same s2
      have et : (m.wd.take (i + 1)).foldl (stepK g sz) g = stepK g sz ((m.wd.take i).foldl (stepK g sz) g) y := by
        rw [List.take_add_one, ey, List.foldl_append]
        rfl
      refine ⟨t, y.row, rfl, .inl (.inl ht), rfl, _, _, rfl, _, _, rfl, _, _, rfl, _, _, rfl, _, _, rfl, rfl, ?_⟩
      refine ⟨_, rfl, _, rfl, e, _, rfl, De.get y.en, _, rfl, ?_⟩
      cases e1 : sz y.en with
      | none =>
        refine iteF (iteF ⟨s2, ?_, hu2, R2, _, _, _, _, _, rfl⟩)
        rw [et]
        unfold stepK
        rw [e1]
        obtain ⟨k1, b1, b2, b3⟩ := D2
        exact ⟨k1, b1, b2, Nat.le_succ_of_le b3⟩
      | some v =>
        refine iteT ⟨_, rfl, _, rfl, k, _, rfl, Dk.get y.bg, _, rfl, ?_⟩
        cases e2 : g y.bg with
        | none =>
          refine iteF ⟨s2, ?_, hu2, R2, _, _, _, _, _, rfl⟩
          rw [et]
          unfold stepK
          rw [e1, e2]
          obtain ⟨k1, b1, b2, b3⟩ := D2
          exact ⟨k1, b1, b2, Nat.le_succ_of_le b3⟩
        | some t' =>
          refine iteT ⟨_, rfl, _, rfl, k, _, rfl, Dk.at e2, _, rfl, _, rfl, e, _, rfl, De.at e1, t', v, rfl, rfl, _, rfl, _, rfl, ?_⟩
          obtain ⟨kv2, c1, c2⟩ := D2.put y.en (t' + v) (small1000 (by omega))
          refine ⟨p, _, rfl, c1, same_put s2 np, ?_, ?_, R2.keep ?_, _, _, _, _, _, rfl⟩
          · rw [et]
            unfold stepK
            rw [e1, e2]
            exact c2
          · obtain ⟨k1, b1, _⟩ := D2
            rw [upd_ne (ne_of hu2 b1 (by intro z; cases z))]
            exact hu2
          · refine Kt.upd fun xs z => ?_
            obtain ⟨k1, b1, _⟩ := D2
            rw [b1] at z
            cases z
    · rintro σ H2 ⟨s2, D2, hu2, R2, y4, y5, y6, y7, y8, rfl⟩
      have e0 : m.wd.take ws.length = m.wd := List.take_of_length_le (by rw [h4.len, List.length_map]; exact Nat.le_refl _)
      have e1 : ws.length = m.wd.length := by rw [h4.len, List.length_map]
      rw [e0, e1] at D2
      exact ⟨_, rfl, q p H2 s2 np D2⟩
/-! ### _law_lengths -/
theorem cmb_take {l : List Wd} {i : Nat} {x : Wd} (e : l[i]? = some x) : cmb (l.take (i + 1)) = stepC (cmb (l.take i)) x := by
  unfold cmb cmbF
  rw [List.take_add_one, e, List.foldl_append]
  rfl
theorem step_take {gs : List Fn} {x : Wd} {j : Nat} {g : Fn} (e : gs[j]? = some g) : stepC (gs.take (j + 1)) x = stepC (gs.take j) x ++ (List.range (x.hi + 1 - x.lo).toNat).map fun (k : Nat) => setF g x.en (x.lo + (k : Int)) := fm_take _ e
def Short (x : Wd) : Prop := 1 ≤ x.lo ∧ x.lo ≤ x.hi ∧ x.hi ≤ 1000 ∧ x.hi + 1 - x.lo ≤ 5
def sp_lens : Sp := fun vs H Q _ => ∃ (L : Addr) (xs : List V) (l : List Wd), vs = [.ref L] ∧ H L = some (.lst xs) ∧ Rows H xs (l.map Wd.row) ∧ l.length ≤ 4 ∧ (∀ x ∈ l, Short x) ∧ ∀ (D : Addr) (ys : List V) (H' : Hp), Same H H' → H D = none → H' D = some (.lst ys) → DFs H' ys (cmb l) l.length → Q (.ref D) H'
theorem cal__law_lengths (T : Tp K mg) : Cal P w K mg base 2 "_law_lengths" sp_lens := by
  obtain ⟨fd, F⟩ := f__law_lengths T
  refine cal_of F (g__law_lengths T) (b__law_lengths F) sc__law_lengths (fun vs H Q E h => ?_) (fun cdv A outer s H vs Q E hr h => ?_)
  · obtain ⟨L, xs, l, rfl, _⟩ := h
    rfl
  · obtain ⟨L, xs, l, rfl, hL, R, hl, hsh, q⟩ := h
    have hu := hu_of hr
    refine ⟨_, (pss_cons (ps_set (i := 1) sc__law_lengths.nd rfl (.inl rfl) (pe_lst (pa_cons pe_dnewK pa_nil)))
      (pss_cons (ps_for PassesOwn.never rfl (pi_list (pv 0)) (pg_tup rfl (pgs_cons (pg_name (i := 2) sc__law_lengths.nd rfl (.inl rfl)) (pgs_cons (pg_name (i := 3) sc__law_lengths.nd rfl (.inl rfl)) (pgs_cons (pg_name (i := 4) sc__law_lengths.nd rfl (.inl rfl)) (pgs_cons (pg_name (i := 5) sc__law_lengths.nd rfl (.inl rfl)) (pgs_cons (pg_name (i := 6) sc__law_lengths.nd rfl (.inl rfl)) pgs_nil))))))
        (pss_cons (ps_set (i := 7) sc__law_lengths.nd rfl (.inl rfl) (pe_lst pa_nil))
        (pss_cons (ps_for PassesOwn.never rfl (pi_list (pv 1)) (pg_name (i := 8) sc__law_lengths.nd rfl (.inl rfl))
          (pss_one (ps_for PassesOwn.never rfl (pi_range2 rfl (z_range T) (pa_cons (pv 4) (pa_cons (pe_op op_add (pv 5) pe_int) pa_nil))) (pg_name (i := 9) sc__law_lengths.nd rfl (.inl rfl))
            (pss_cons (ps_set (i := 10) sc__law_lengths.nd rfl (.inl rfl) (pe_callTy call_dictD (by rfl) (z_dict T) bb_dict (pa_cons (pv 8) pa_nil)))
            (pss_cons (ps_dput hu (pv 10) (pv 2) (pv 9) rfl)
            (pss_one (ps_expr (pe_bm PySem.F.plainAttrs_list PySem.F.slot_list_append PySem.F.type_list_append mt_append (pv 7) (pa_cons (pv 10) pa_nil)))))))))
        (pss_one (ps_set (i := 1) sc__law_lengths.nd rfl (.inl rfl) (pv 7))))))
      (pss_one (ps_ret (pv 1))))), ?_⟩
    refine fun p np => ⟨(by show 1 ≤ sizeLine; decide), fun D0 nD0 => ?_⟩
    have sA := same_upd (o := .dK []) np
    have s1 := sA.trans (same_upd (o := .lst [.ref p]) nD0)
    have npD : p ≠ D0 := ne_of_none upd_same nD0
    have hxl : xs.length = l.length := by rw [R.len, List.length_map]
    refine ⟨_, rfl, L, rfl, ⟨_, .inl (.inl (s1 _ _ hL))⟩, for_list (K := K) (a := L) (xs := xs) (fun i σ H2 => ∃ (D : Addr) (ys : List V) (y2 y3 y4 y5 y6 y7 y8 y9 y10 : Option V), σ = [some (.ref L), some (.ref D), y2, y3, y4, y5, y6, y7, y8, y9, y10] ∧ Same H H2 ∧ H D = none ∧ H2 D = some (.lst ys) ∧ DFs H2 ys (cmb (l.take i)) i ∧ ys.length ≤ 5 ^ i)
      ⟨D0, [.ref p], none, none, none, none, none, none, none, none, none, rfl, s1, sA.free nD0, upd_same, .cons ⟨p, rfl, [], by rw [upd_ne npD]; exact upd_same, TFn.nil, Nat.le_refl _⟩ .nil, Nat.le_refl _⟩ (fun i σ H2 _ ⟨_, _, _, _, _, _, _, _, _, _, _, _, s2, _⟩ => .inl (.inl (s2 _ _ hL))) ?_ ?_⟩
    · rintro i v σ H2 hv ⟨D, ys, y2, y3, y4, y5, y6, y7, y8, y9, y10, rfl, s2, nD, hD, G, hy⟩
      obtain ⟨t, x, rfl, ex, ht⟩ := row_of R hv
      have hi : i < l.length := (List.getElem?_eq_some_iff.mp ex).1
      obtain ⟨x1, x2, x3, x4⟩ := hsh x (List.mem_of_getElem? ex)
      have hgl : ys.length = (cmb (l.take i)).length := Paired.length G
      have h5 : 5 ^ i ≤ 125 := Nat.pow_le_pow_right (by decide) (show i ≤ 3 by omega)
      rw [cmb_take ex]
      generalize hgs : cmb (l.take i) = gs at G hgl ⊢
      refine ⟨t, x.row, rfl, .inl (.inl (s2 _ _ ht)), rfl, _, _, rfl, _, _, rfl, _, _, rfl, _, _, rfl, _, _, rfl, rfl, ?_⟩
      refine ⟨Nat.zero_le _, fun W nW => ?_⟩
      have nWH := s2.free nW
      have nDW : D ≠ W := ne_of_none hD nW
      have s3 := same_upd (o := .lst []) nW
      refine ⟨_, rfl, D, rfl, ⟨_, .inl (.inl (s3 _ _ hD))⟩, for_list (K := K) (a := D) (xs := ys) (fun j σ H3 => ∃ (zs : List V) (y8 y9 y10 : Option V), σ = [some (.ref L), some (.ref D), some (.str x.en), some (.str x.bg), some (.int x.lo), some (.int x.hi), some (oV x.la), some (.ref W), y8, y9, y10] ∧ Same H H3 ∧ H3 D = some (.lst ys) ∧ DFs H3 ys gs i ∧ H3 W = some (.lst zs) ∧ DFs H3 zs (stepC (gs.take j) x) (i + 1))
        ⟨[], _, _, _, rfl, s2.trans s3, s3 _ _ hD, G.mono fun _ _ h => h.same s3, upd_same, .nil⟩ (fun j σ H3 _ ⟨_, _, _, _, _, _, h, _⟩ => .inl (.inl h)) ?_ ?_⟩
      · rintro j v σ H3 hv ⟨zs, y8, y9, y10, rfl, s3, hD3, G3, hW3, Z3⟩
        obtain ⟨a, g, rfl, eg, Da⟩ := G3.at hv
        have hj : j < gs.length := (List.getElem?_eq_some_iff.mp eg).1
        have hz3 : (stepC (gs.take j) x).length ≤ 5 * gs.length := by
          refine Nat.le_trans (step_len _ x 5 (by omega)) ?_
          rw [List.length_take]
          omega
        refine ⟨_, rfl, _, rfl, x.hi, 1, rfl, rfl, x.lo, x.hi + 1, rfl, ⟨by omega, by omega, by omega, by omega⟩, for_range (lo := x.lo) (n := (x.hi + 1 - x.lo).toNat) (fun k σ H4 => ∃ (zs : List V) (y9 y10 : Option V), σ = [some (.ref L), some (.ref D), some (.str x.en), some (.str x.bg), some (.int x.lo), some (.int x.hi), some (oV x.la), some (.ref W), some (.ref a), y9, y10] ∧ Same H H4 ∧ H4 D = some (.lst ys) ∧ DFs H4 ys gs i ∧ H4 W = some (.lst zs) ∧ DFs H4 zs (stepC (gs.take j) x ++ (List.range k).map fun (k : Nat) => setF g x.en (x.lo + (k : Int))) (i + 1))
          ⟨zs, _, _, rfl, s3, hD3, G3, hW3, by rw [List.range_zero, List.map_nil, List.append_nil]; exact Z3⟩ ?_ ?_⟩
        · rintro k σ H4 hk ⟨zs, y9, y10, rfl, s4, hD4, G4, hW4, Z4⟩
          obtain ⟨a', g', e1, e2, Da4⟩ := G4.at hv
          cases e1
          rw [eg] at e2
          cases e2
          obtain ⟨kvs, b1, b2, b3⟩ := Da4
          refine ⟨_, rfl, a, kvs, rfl, .inl b1, fun p np => ?_⟩
          have s5 := same_upd (o := .dK kvs) np
          obtain ⟨kv2, c1, c2⟩ := DFn.put (H := upd H4 p (.dK kvs)) (d := p) (g := g) (n := i) ⟨kvs, upd_same, b2, b3⟩ x.en (x.lo + k) (small1000 (by omega))
          refine ⟨_, rfl, _, rfl, _, rfl, p, _, rfl, c1, ?_⟩
          have s6 : Same H4 (upd (upd H4 p (.dK kvs)) p (.dK kv2)) := same_put s5 np
          have hW6 := s6 _ _ hW4
          have hzl : zs.length ≤ 5 * gs.length + k := by
            have := Paired.length Z4
            rw [List.length_append, List.length_map, List.length_range] at this
            omega
          refine ⟨_, rfl, .inl ⟨rfl, _, .inl (.inl hW6)⟩, _, rfl, W, zs, _, rfl, rfl, hW6, small1000 (by omega), ?_⟩
          refine ⟨_, _, _, rfl, same_put (s4.trans s6) nWH, by rw [upd_ne nDW]; exact s6 _ _ hD4, G4.mono fun _ _ h => (h.same s6).lst hW6, upd_same, ?_⟩
          rw [List.range_succ, List.map_append, ← List.append_assoc]
          exact Paired.snoc (Z4.mono fun _ _ h => (h.same s6).lst hW6) ⟨p, rfl, c2.lst hW6⟩
        · rintro σ H4 ⟨zs, y9, y10, rfl, s4, hD4, G4, hW4, Z4⟩
          refine ⟨zs, _, _, _, rfl, s4, hD4, G4, hW4, ?_⟩
          rw [step_take eg]
          exact Z4
      · rintro σ H3 ⟨zs, y8, y9, y10, rfl, s3, hD3, G3, hW3, Z3⟩
        rw [List.take_of_length_le (by rw [hgl]; exact Nat.le_refl _)] at Z3
        refine ⟨_, rfl, W, zs, _, _, _, _, _, _, _, _, _, rfl, s3, nWH, hW3, Z3, ?_⟩
        have e1 := Paired.length Z3
        have e2 := step_len gs x 5 (by omega)
        rw [e1, Nat.pow_succ]
        omega
    · rintro σ H2 ⟨D, ys, y2, y3, y4, y5, y6, y7, y8, y9, y10, rfl, s2, nD, hD, G, hy⟩
      rw [hxl, List.take_of_length_le (Nat.le_refl _)] at G
      exact ⟨_, rfl, q D ys H2 s2 nD hD G⟩
/-! ### _law_all_hold -/
theorem filt_take {α : Type} (p : α → Bool) {l : List α} {i : Nat} {x : α} (e : l[i]? = some x) : (l.take (i + 1)).filter p = (l.take i).filter p ++ (if p x = true then [x] else []) := by
  rw [List.take_add_one, e, List.filter_append]
  cases h : p x <;> simp [h]
def sp_allh : Sp := fun vs H Q _ => ∃ (d k e : Addr) (m : Md) (g s : Fn), vs = [.ref d, .ref k, .ref e] ∧ MdAt H d m ∧ MdOk m ∧ (∀ x ∈ m.wd, Short x) ∧ DFn H k g 100 ∧ DFn H e s 100 ∧ Tk m g s ∧ ∀ H', Same H H' → Q (.bl (allB m g s)) H'
theorem cal__law_all_hold (T : Tp K mg) : Cal P w K mg base 3 "_law_all_hold" sp_allh := by
  obtain ⟨fd, F⟩ := f__law_all_hold T
  refine cal_of F (g__law_all_hold T) (b__law_all_hold F) sc__law_all_hold (fun vs H Q E h => ?_) (fun cdv A outer s H vs Q E hr h => ?_)
  · obtain ⟨d, k, e, m, g, s', rfl, _⟩ := h
    rfl
  · obtain ⟨d, k, e, m, g, sz, rfl, M, ok, hsh, Dk, De, tk, q⟩ := h
    have hu := hu_of hr
    have hlen := ok.len
    refine ⟨_, (pss_cons (ps_setLc (i := 3) (own := [("_law_wind_here", 7)]) (g := gName 7) rfl sc__law_all_hold.nd rfl rfl (sw_true rfl rfl rfl (by decide +kernel)) (pi_list (pe_dget hu (pv 0) pe_str (fun _ _ => rfl))) (blkOk_by (N := N__law_all_hold) (sc := defScope s__law_all_hold) (by decide +kernel)) (fun _ _ _ _ _ => (pg_name (i := 7) sc__law_all_hold.nd rfl (.inl rfl))) (fun _ _ _ _ _ => (pts_one (pt_cmp (pc_dnotin hu (pe_ix (ix_tupK (K := K) rfl) (pv 7) pe_int (fun _ _ => rfl)) (pv 2)) (by rfl)))) (fun _ _ _ _ _ => (pv 7)))
      (pss_cons (ps_for PassesOwn.never rfl (pi_list (C8.pe_c (cal__law_lengths T) hr (by decide) rfl (pa_cons (pv 3) pa_nil))) (pg_name (i := 4) sc__law_all_hold.nd rfl (.inl rfl))
        (pss_cons (ps_set (i := 5) sc__law_all_hold.nd rfl (.inl rfl) (pe_callTy call_dictD (by rfl) (z_dict T) bb_dict (pa_cons (pv 2) pa_nil)))
        (pss_cons (ps_expr (pe_bm PySem.F.plainAttrs_dict PySem.F.slot_dict_update PySem.F.type_dict_update mt_update (pv 5) (pa_cons (pv 4) pa_nil)))
        (pss_cons (ps_set (i := 6) sc__law_all_hold.nd rfl (.inr rfl) (C8.pe_c (cal__law_come T) hr (by decide) rfl (pa_cons (pv 0) (pa_cons (pv 1) (pa_cons (pv 5) pa_nil)))))
        (pss_one (ps_if (pt_not (pt_val (pe_callB (cr_all rfl) (by rfl) (z_all T) bb_all (pa_cons (pe_lc (own := [("_law_bond_here", 8)]) (g := gName 8) (tt := tYes) rfl sc__law_all_hold.nd (pi_list (pe_dget hu (pv 0) pe_str (fun _ _ => rfl))) (blkOk_by (N := N__law_all_hold) (sc := defScope s__law_all_hold) (by decide +kernel)) (fun _ _ _ _ _ => (pg_name (i := 8) sc__law_all_hold.nd rfl (.inl rfl))) (fun _ _ _ _ _ => pts_nil) (fun _ _ _ _ _ => (C8.pe_c (cal__law_tie_holds T) hr (by decide) rfl (pa_cons (pv 8) (pa_cons (pv 6) pa_nil))))) pa_nil)))) (pss_one (ps_ret pe_bl)) pss_nil))))))
      (pss_one (ps_ret pe_bl)))), ?_⟩
    obtain ⟨o, u, b, ws, bs, h1, h2, h3, h4, h5, h6, h7⟩ := M.ex
    refine ⟨_, rfl, d, _, rfl, mk_wd h1, u, rfl, ⟨_, .inl (.inl h3)⟩, fun D nD => ?_⟩
    refine lc_list (K := K) (a := u) (xs := ws) (fun i H1 => Same H H1 ∧ RowsAt H1 D (((m.wd.take i).filter fun x => (sz x.en).isNone).map Wd.row)) ⟨same_upd nD, [], upd_same, .nil⟩ (fun i H1 _ ⟨s1, _⟩ => .inl (.inl (s1 _ _ h3))) ?_ ?_
    · rintro i x H1 hx ⟨s1, xs, d1, d2⟩
      obtain ⟨t, y, rfl, ey, ht⟩ := row_of h4 hx
      have hi : i < m.wd.length := (List.getElem?_eq_some_iff.mp ey).1
      have hxl : xs.length ≤ 4 := by
        rw [d2.len, List.length_map]
        refine Nat.le_trans (List.length_filter_le _ _) ?_
        rw [List.length_take]
        omega
      refine ⟨rfl, _, rfl, t, _, 0, _, rfl, rfl, .inl (.inl (s1 _ _ ht)), atI_nat (j := 0) rfl, _, rfl, e, _, rfl, (De.same s1).get y.en, _, rfl, ?_⟩
      rw [filt_take _ ey]
      cases e1 : sz y.en with
      | none =>
        refine iteT ⟨_, rfl, xs, d1, small1000 (by omega), same_put s1 nD, ?_⟩
        rw [List.map_append]
        have kk := kt_put (ys := xs ++ [V.ref t]) d1
        exact ⟨_, upd_same, Rows.snoc (d2.keep kk) (kk _ _ (s1 _ _ ht))⟩
      | some v =>
        refine iteF ⟨s1, ?_⟩
        show RowsAt H1 D ((_ ++ []).map Wd.row)
        rw [List.append_nil]
        exact ⟨xs, d1, d2⟩
    · rintro H1 ⟨s1, xs, d1, d2⟩
      have e0 : m.wd.take ws.length = m.wd := List.take_of_length_le (by rw [h4.len, List.length_map]; exact Nat.le_refl _)
      rw [e0] at d2
      have hhl : (hid m sz).length ≤ 4 := by
        have := List.length_filter_le (fun x => (sz x.en).isNone) m.wd
        show (m.wd.filter _).length ≤ 4
        omega
      refine ⟨_, rfl, D, xs, hid m sz, rfl, d1, d2, hhl, fun x hx => hsh x (hid_sub.subset hx), fun L ys H2 s2 nL hL G => ?_⟩
      have s12 := s1.trans s2
      have eA : allB m g sz = (cmb (hid m sz)).all fun h => m.bd.all fun x => tieAt x (comeF g (ov sz h) m.wd) := rfl
      generalize hP : (fun h : Fn => m.bd.all fun x => tieAt x (comeF g (ov sz h) m.wd)) = PP at eA
      have hyl : ys.length = (cmb (hid m sz)).length := Paired.length G
      refine ⟨L, rfl, ⟨_, .inl (.inl hL)⟩, for_list (K := K) (a := L) (xs := ys) (fun i σ H3 => ∃ y4 y5 y6 : Option V, σ = [some (.ref d), some (.ref k), some (.ref e), some (.ref D), y4, y5, y6, none, none] ∧ Same H2 H3 ∧ allB m g sz = ((cmb (hid m sz)).drop i).all PP) ⟨none, none, none, rfl, fun _ _ z => z, eA⟩ (fun i σ H3 _ ⟨_, _, _, _, s3, _⟩ => .inl (.inl (s3 _ _ hL))) ?_ ?_⟩
      · rintro i x σ H3 hx ⟨y4, y5, y6, rfl, s3, ea⟩
        obtain ⟨hd, h, rfl, eh, Dh⟩ := G.at hx
        rw [drop_cons eh, List.all_cons] at ea
        have cho := cho_of ok (List.mem_of_getElem? eh)
        have sA := s12.trans s3
        obtain ⟨kvs, a1, a2, a3⟩ := De.same sA
        obtain ⟨more, b1, b2, b3⟩ := Dh.same s3
        refine ⟨_, rfl, e, kvs, rfl, .inl a1, fun p np => ?_⟩
        have s4 := same_upd (o := .dK kvs) np
        have npd : p ≠ hd := (ne_of_none b1 np).symm
        refine ⟨_, rfl, .inr (.inr (.inl ⟨rfl, .inl ⟨_, upd_same⟩⟩)), _, rfl, p, hd, kvs, more, rfl, rfl, npd, upd_same, s4 _ _ b1, Nat.le_of_lt (small1000 (by omega)), ?_⟩
        have s5 : Same H3 (upd (upd H3 p (.dK kvs)) p (.dK (mergeK kvs more))) := same_put s4 np
        have Dw : DFn (upd (upd H3 p (.dK kvs)) p (.dK (mergeK kvs more))) p (ov sz h) 104 := ⟨_, upd_same, a2.merge b2, Nat.le_trans (length_mergeK _ _) (by omega)⟩
        have sB := sA.trans s5
        refine ⟨_, rfl, _, rfl, _, rfl, d, k, p, m, g, ov sz h, 100, 104, rfl, M.same sB, Dk.same sB, Dw, by omega, fun c H4 s6 nc Dc => ?_⟩
        have sC := sB.trans s6
        obtain ⟨o2, u2, b2', ws2, bs2, g1, g2, g3, g4, g5, g6, g7⟩ := (M.same sC).ex
        refine ⟨_, rfl, d, _, rfl, mk_bd g1, b2', rfl, ⟨_, .inl (.inl g5)⟩, fun B nB => ?_⟩
        refine lc_list (K := K) (a := b2') (xs := bs2) (fun i H5 => Same H4 H5 ∧ H5 B = some (.lst (((m.bd.take i).map fun x => tieAt x (comeF g (ov sz h) m.wd)).map V.bl))) ⟨same_upd nB, upd_same⟩ (fun i H5 _ ⟨s7, _⟩ => .inl (.inl (s7 _ _ g5))) ?_ ?_
        · rintro j x H5 hx ⟨s7, hB⟩
          obtain ⟨t, y, rfl, ey, ht⟩ := row_of g6 hx
          have hy := ok.bd y (List.mem_of_getElem? ey)
          obtain ⟨va, ea1⟩ := come_in ok tk cho hy.one
          obtain ⟨vb, eb1⟩ := come_in ok tk cho hy.oth
          refine ⟨rfl, yes_i (iteT ⟨_, rfl, _, rfl, t, c, y, comeF g (ov sz h) m.wd, _, va, vb, rfl, s7 _ _ ht, Dc.same s7, ea1, eb1, _, hB, ?_, same_put s7 nB, ?_⟩)⟩
          · rw [List.length_map, List.length_map, List.length_take]
            exact small1000 (by omega)
          · rw [upd_same, List.take_add_one, ey, List.map_append, List.map_append, ← tieAt_at ea1 eb1]
            rfl
        · rintro H5 ⟨s7, hB⟩
          have e1 : m.bd.take bs2.length = m.bd := List.take_of_length_le (by rw [g6.len, List.length_map]; exact Nat.le_refl _)
          rw [e1] at hB
          refine ⟨B, _, rfl, .inl (.inl hB), _, rfl, ?_⟩
          have e2 : (m.bd.map fun x => tieAt x (comeF g (ov sz h) m.wd)).all id = PP h := by
            rw [← hP, List.all_map]
            rfl
          rw [e2]
          cases eP : PP h with
          | true =>
            rw [eP, Bool.true_and] at ea
            exact iteF ⟨_, _, _, rfl, (s3.trans s5).trans (s6.trans s7), ea⟩
          | false =>
            rw [eP, Bool.false_and] at ea
            have q := q H5 (sC.trans s7)
            rw [ea] at q
            exact iteT q
      · rintro σ H3 ⟨y4, y5, y6, rfl, s3, ea⟩
        rw [List.drop_of_length_le (by rw [hyl]; exact Nat.le_refl _)] at ea
        have q := q H3 (s12.trans s3)
        rw [ea] at q
        exact q
end
end Tw

set_option maxHeartbeats 4000000
namespace Tw
open PySem PySem.Spec PyProof.Rows L2
theorem DFn.up {H : Hp} {d : Addr} {g : Fn} {n n' : Nat} (h : DFn H d g n) (l : n ≤ n') : DFn H d g n' := let ⟨k, a, b, c⟩ := h; ⟨k, a, b, Nat.le_trans c l⟩
theorem RowsAt.sb {H H' : Hp} {f c D : Addr} {α : Type} {fr : α → List V} {l : List α} (h : RowsAt H D (l.map fr)) (F : Flow H f c) (s : Sb f H H') : RowsAt H' D (l.map fr) := by
  obtain ⟨xs, h1, h2⟩ := h
  obtain ⟨zs, hf⟩ := F.lst
  exact ⟨xs, s _ _ h1 (rows_flow F h1 h2), h2.keep (s.kt hf)⟩
theorem sb_put {H H1 : Hp} {f D : Addr} {o : HO} (s : Sb f H H1) (nD : H D = none) : Sb f H (upd H1 D o) := fun b x e n => by
  rw [upd_ne (ne_of_none e nD)]
  exact s b x e n
theorem Flow.putD {H : Hp} {f c p : Addr} {o : HO} {kvs : List (Key × V)} (h : Flow H f c) (hp : H p = some (.dK kvs)) : Flow (L2.upd H p o) f c := by
  obtain ⟨xs, h1⟩ := h.lst
  obtain ⟨ys, h2⟩ := h.cells
  exact h.upd (ne_of h1 hp (by intro z; cases z)) (ne_of h2 hp (by intro z; cases z))
theorem foldH_ext {g s s' : Fn} : ∀ {l : List Wd} {f : Fn}, (∀ x ∈ l, s x.en = s' x.en) → l.foldl (stepH g s) f = l.foldl (stepH g s') f
  | [], _, _ => rfl
  | x :: l, f, h => by
    have e : stepH g s f x = stepH g s' f x := by
      unfold stepH
      rw [h x List.mem_cons_self]
    rw [List.foldl_cons, List.foldl_cons, e]
    exact foldH_ext fun y hy => h y (List.mem_cons_of_mem _ hy)
def goodAt (last : Int) (g : Fn) (z : Str) : Bool := match g z with
  | some v => decide (0 ≤ v ∧ v ≤ last)
  | none => false
theorem not_take {l : List Str} {i : Nat} {z : Str} (nd : l.Nodup) (e : l[i]? = some z) : ¬ z ∈ l.take i := fun h => by
  have h1 : l = l.take i ++ l.drop i := (List.take_append_drop i l).symm
  rw [h1] at nd
  exact (List.nodup_append.mp nd).2.2 z h z (by rw [drop_cons e]; exact List.mem_cons_self) rfl
/-- ticks of start and of the first moments -/
structure Tks (l : List Str) (g : Fn) : Prop where
  start : g "start" = some 0
  own : ∀ z ∈ l, ∃ v, g z = some v
  oth : ∀ z : Str, ¬ z = ("start" : Str) → ¬ z ∈ l → g z = none
/-- lengths of the first spans -/
structure Lns (l : List Wd) (s : Fn) : Prop where
  qui : ∀ x ∈ l, x.la = none → s x.en = none
  hrd : ∀ x ∈ l, ∀ i, x.la = some i → ∃ v, s x.en = some v ∧ x.lo ≤ v ∧ v ≤ x.hi
  oth : ∀ z, ¬ z ∈ l.map (·.en) → s z = none
theorem sb_frF {H H' : Hp} {f c e : Addr} (s : Sb f H H') (F : Flow H' f c) (n : H' e = none) : H e = none := by
  obtain ⟨xs, hf⟩ := F.lst
  cases h : H e with
  | none => rfl
  | some o =>
    by_cases c : e = f
    · rw [c, hf] at n
      cases n
    · rw [s _ _ h c] at n
      cases n
section
variable {P : Program} {w : World} {K : PySem.W.Frag} {mg : Str → Option Value} {base : Heap}
def sp_law (K : PySem.W.Frag) : Sp := fun vs H Q _ => ∃ (a : Addr) (ns : List Int), vs = [.ref a] ∧ SqL K H a (ns.map V.int) ∧ ∀ H', Q (.bl true) H'
theorem ok_law (T : Tp K mg) {fd : FuncData} (F : FunD K "law" "law" (defArgs s_law) (defBody s_law) (defScope s_law) [] [] (He.ga K "law") fd) : FnOk P w K mg base CX0 10 (He.ga K "law") fd ["_law_script"] (sp_law K) := by
  refine fnok_of F sc_law (fun vs H Q E h => ?_) (fun cdv A outer s H vs Q E hr h => ?_)
  · obtain ⟨a, ns, rfl, _⟩ := h
    rfl
  · obtain ⟨a, ns, rfl, hS, q⟩ := h
    have hu := hu_of hr
    refine ⟨_, (pss_cons (ps_set (i := 1) sc_law.nd rfl (.inl rfl) (C8.pe_c (cal__law_flow T) hr (by decide) rfl (pa_cons (pv 0) pa_nil)))
      (pss_cons (ps_par (i := 2) (j := 3) (by rfl) sc_law.nd rfl rfl (by decide) rfl rfl (pa_cons (pe_op op_add pe_int (C8.pe_c (cal__law_draw T) hr (by decide) rfl (pa_cons (pv 1) (pa_cons pe_int pa_nil)))) (pa_cons (C8.pe_c (cal__law_draw T) hr (by decide) rfl (pa_cons (pv 1) (pa_cons pe_int pa_nil))) pa_nil)) (by rfl))
      (pss_cons (ps_set (i := 4) sc_law.nd rfl (.inl rfl) (C8.pe_c (cal__law_drawn T) hr (by decide) rfl (pa_cons (pv 1) (pa_cons (pv 2) (pa_cons (pv 3) (pa_cons (pe_op op_add pe_int (C8.pe_c (cal__law_draw T) hr (by decide) rfl (pa_cons (pv 1) (pa_cons pe_int pa_nil)))) (pa_cons pe_int (pa_cons (pe_op op_add pe_int (C8.pe_c (cal__law_draw T) hr (by decide) rfl (pa_cons (pv 1) (pa_cons pe_int pa_nil)))) pa_nil))))))))
      (pss_cons (ps_set (i := 5) sc_law.nd rfl (.inl rfl) (C8.pe_c (cal_bounds T) hr (by decide) rfl (pa_cons (C8.pe_c (cal__law_web T) hr (by decide) rfl (pa_cons (pv 4) pa_nil)) pa_nil)))
      (pss_cons (ps_for PassesOwn.never rfl (pi_range1 rfl (z_range T) (pa_cons pe_int pa_nil)) (pg_name (i := 6) sc_law.nd rfl (.inl rfl))
        (pss_cons (ps_set (i := 7) sc_law.nd rfl (.inl rfl) (pe_disp (pps_cons pe_str pe_int pps_nil) (by rfl) (by rfl) (fun z => by cases z) (by decide)))
        (pss_cons (ps_set (i := 8) sc_law.nd rfl (.inl rfl) pe_bl)
        (pss_cons (ps_for PassesOwn.never rfl (pi_list (pe_dget hu (pv 4) pe_str (fun _ _ => rfl))) (pg_name (i := 9) sc_law.nd rfl (.inl rfl))
          (pss_cons (ps_dput hu (pv 7) (pv 9) (pe_op op_sub (C8.pe_c (cal__law_draw T) hr (by decide) rfl (pa_cons (pv 1) (pa_cons (pe_op op_add (pe_dget hu (pv 4) pe_str (fun _ _ => rfl)) pe_int) pa_nil))) pe_int) rfl)
          (pss_one (ps_set (i := 8) sc_law.nd rfl (.inl rfl) (pe_and (pv 8) (pe_one (pe_chain op_le op_le pe_int (pe_dget hu (pv 7) (pv 9) (fun _ _ => rfl)) (pe_dget hu (pv 4) pe_str (fun _ _ => rfl)))))))))
        (pss_cons (ps_set (i := 10) sc_law.nd rfl (.inl rfl) pe_dnewK)
        (pss_cons (ps_set (i := 11) sc_law.nd rfl (.inl rfl) (pe_callTy call_dictD (by rfl) (z_dict T) bb_dict (pa_cons (pv 7) pa_nil)))
        (pss_cons (ps_for PassesOwn.never rfl (pi_list (pe_dget hu (pv 4) pe_str (fun _ _ => rfl))) (pg_tup rfl (pgs_cons (pg_name (i := 12) sc_law.nd rfl (.inl rfl)) (pgs_cons (pg_name (i := 13) sc_law.nd rfl (.inl rfl)) (pgs_cons (pg_name (i := 14) sc_law.nd rfl (.inl rfl)) (pgs_cons (pg_name (i := 15) sc_law.nd rfl (.inl rfl)) (pgs_cons (pg_name (i := 16) sc_law.nd rfl (.inl rfl)) pgs_nil))))))
          (pss_one (ps_if (pt_cmpR op_notN (pv 16) pe_non (nomark _)) (pss_cons (ps_dput hu (pv 10) (pv 12) (pe_op op_add (pv 14) (C8.pe_c (cal__law_draw T) hr (by decide) rfl (pa_cons (pv 1) (pa_cons (pe_op op_add (pe_op op_sub (pv 15) (pv 14)) pe_int) pa_nil)))) rfl)
            (pss_one (ps_dput hu (pv 11) (pv 12) (pe_op op_add (pe_op op_add (pe_dget hu (pv 7) (pv 13) (fun _ _ => rfl)) (pe_dget hu (pv 10) (pv 12) (fun _ _ => rfl))) (pv 16)) rfl))) pss_nil)))
        (pss_cons (ps_set (i := 17) sc_law.nd rfl (.inl rfl) (pe_and (pv 8) (pe_one (C8.pe_c (cal__law_all_hold T) hr (by decide) rfl (pa_cons (pv 4) (pa_cons (pv 7) (pa_cons (pv 10) pa_nil)))))))
        (pss_one (ps_if (pt_cmpR op_ne (C8.pe_c (cal__law_bounds_hold T) hr (by decide) rfl (pa_cons (pv 5) (pa_cons (pv 11) pa_nil))) (pv 17) (nomark _)) (pss_one (ps_ret pe_bl)) pss_nil))))))))))
      (pss_one (ps_ret pe_bl))))))), ?_⟩
    refine ⟨_, rfl, a, ns, rfl, hS, fun f c H1 s1 nf nc F1 => ?_⟩
    refine ⟨_, rfl, f, c, 3, rfl, F1, by decide, by decide, fun v1 H2 a1 b1 sb1 F2 => ⟨1, v1, rfl, rfl, _, rfl, f, c, 4, rfl, F2, by decide, by decide, fun v2 H3 a2 b2 sb2 F3 => ⟨_, _, rfl, ?_⟩⟩⟩
    refine ⟨_, rfl, _, rfl, _, rfl, _, rfl, f, c, 4, rfl, F3, by decide, by decide, fun v3 H4 a3 b3 sb3 F4 => ⟨1, v3, rfl, rfl, _, rfl, f, c, 6, rfl, F4, by decide, by decide, fun v4 H5 a4 b4 sb4 F5 => ⟨2, v4, rfl, rfl, f, c, 1 + v1, v2, 1 + v3, 3, 2 + v4, rfl, F5, by omega, by omega, by omega, by omega, by omega, by omega, by omega, by omega, by omega, by omega, by omega, fun d m H6 sb6 F6 nd M ok hlast _ _ _ near => ?_⟩⟩⟩
    refine ⟨_, rfl, d, m, rfl, M, ok, fun p H7 s7 np W => ?_⟩
    have hpt : ∀ x ∈ m.bd, x.one ∈ m.pts ∧ x.oth ∈ m.pts := fun x hx => ⟨(ok.bd x hx).one, (ok.bd x hx).oth⟩
    refine ⟨p, m, rfl, W, hpt, fun D H8 s8 nD R8 => ?_⟩
    rw [bT_rows] at R8
    have M8 := (M.same s7).same s8
    have F8 := (F6.same s7).same s8
    have hsh : ∀ x ∈ m.wd, Short x := fun x hx => by
      have h1 := ok.wd x hx
      have h2 := near x hx
      exact ⟨h1.lo, h1.hi, h1.top, by have := h2.2.1; have := h1.lo; omega⟩
    have hlen := ok.len
    have hl2 := ok.last
    refine ⟨10, rfl, by decide, by decide, for_range (lo := 0) (n := 10) (fun i σ H9 => ∃ y6 y7 y8 y9 y10 y11 y12 y13 y14 y15 y16 y17 : Option V, σ = [some (.ref a), some (.ref f), some (.int (1 + v1)), some (.int v2), some (.ref d), some (.ref D), y6, y7, y8, y9, y10, y11, y12, y13, y14, y15, y16, y17] ∧ Flow H9 f c ∧ MdAt H9 d m ∧ RowsAt H9 D ((bT m).map bRow)) ⟨none, none, none, none, none, none, none, none, none, none, none, none, rfl, F8, M8, R8⟩ ?_ ?_⟩
    · rintro i σ H9 hi ⟨y6, y7, y8, y9, y10, y11, y12, y13, y14, y15, y16, y17, rfl, F9, M9, R9⟩
      refine fun p np => ⟨upd_same, [(kS "start", .int 0)], rfl, by decide, ?_⟩
      have sP : Same H9 (upd (upd H9 p (.dK [])) p (.dK (mergeK [] [(kS "start", .int 0)]))) := same_put (same_upd np) np
      have D0 : DFn (upd (upd H9 p (.dK [])) p (.dK (mergeK [] [(kS "start", .int 0)]))) p (setF (fun _ => none) "start" 0) 1 := ⟨_, upd_same, TFn.nil.put "start" 0, Nat.le_refl _⟩
      obtain ⟨o, u, b, ws, bs, h1, h2, h3, h4, h5, h6, h7⟩ := M9.ex
      obtain ⟨zs, hf⟩ := F9.lst
      have kd : ∀ {H'}, Sb f H9 H' → H' d = some (.dK (mk m.last o u b)) := fun s => s _ _ h1 (ne_of h1 hf (by intro z; cases z))
      have ko : ∀ {H'}, Sb f H9 H' → H' o = some (.lst (m.own.map V.str)) := fun s => s _ _ h2 (strs_flow F9 h2)
      have ku : ∀ {H'}, Sb f H9 H' → H' u = some (.lst ws) := fun s => s _ _ h3 (rows_flow F9 h3 h4)
      have kr : ∀ {H'}, Sb f H9 H' → Rows H' ws (m.wd.map Wd.row) := fun s => h4.keep (s.kt hf)
      have ndo : m.own.Nodup := (List.nodup_append.mp ok.nd).1
      have sbP := Sb.of (f := f) sP
      refine ⟨_, rfl, d, _, rfl, mk_own (kd sbP), o, rfl, ⟨_, .inl (.inl (ko sbP))⟩, for_list (K := K) (a := o) (xs := m.own.map V.str) (fun j σ H' => ∃ (g : Fn) (good : Bool) (y9 : Option V), σ = [some (.ref a), some (.ref f), some (.int (1 + v1)), some (.int v2), some (.ref d), some (.ref D), some (.int (0 + (i : Int))), some (.ref p), some (.bl good), y9, y10, y11, y12, y13, y14, y15, y16, y17] ∧ Sb f H9 H' ∧ Flow H' f c ∧ DFn H' p g (1 + j) ∧ Tks (m.own.take j) g ∧ good = (m.own.take j).all (goodAt m.last g))
        ⟨_, true, y9, rfl, sbP, F9.same sP, D0, ⟨setF_same, fun z hz => (nomatch hz), fun z hz _ => setF_ne hz⟩, rfl⟩ (fun j σ H' _ ⟨_, _, _, _, s, _⟩ => .inl (.inl (ko s))) ?_ ?_⟩
      · rintro j x σ H' hx ⟨g, good, y9, rfl, sb, FL, Dg, tks, eg⟩
        rw [List.getElem?_map] at hx
        cases ez : m.own[j]? with
        | none =>
          rw [ez] at hx
          cases hx
        | some z =>
          rw [ez] at hx
          cases hx
          have hj : j < m.own.length := (List.getElem?_eq_some_iff.mp ez).1
          have nz := not_take ndo ez
          have zs : ¬ z = ("start" : Str) := fun e => (pool_nm (ok.pool z (List.mem_append_left _ (List.mem_of_getElem? ez)))).2 e
          refine ⟨_, rfl, _, rfl, d, _, rfl, mk_by (kd sb), m.last, 3, rfl, rfl, f, c, m.last + 3, rfl, FL, by omega, by omega, fun v H2' v0 v1' sb' FL' => ?_⟩
          obtain ⟨xs', hf'⟩ := FL.lst
          have Dg' := Dg.sb sb' hf'
          obtain ⟨kv, c1, c2⟩ := Dg'.put z (v - 1) (small1000 (by omega))
          have FL2 : Flow (upd H2' p (.dK kv)) f c := by
            obtain ⟨k1, e1, _⟩ := Dg'
            exact FL'.putD e1
          have sb2 : Sb f H9 (upd H2' p (.dK kv)) := sb_put (sb.trans sb') np
          have tk2 : Tks (m.own.take (j + 1)) (setF g z (v - 1)) := by
            rw [List.take_add_one, ez]
            refine ⟨?_, fun y hy => ?_, fun y h1 h2 => ?_⟩
            · rw [setF_ne fun e => zs e.symm]
              exact tks.start
            · by_cases e : y = z
              · rw [e]
                exact ⟨_, setF_same⟩
              · rw [setF_ne e]
                rcases List.mem_append.mp hy with hy | hy
                · exact tks.own y hy
                · exact absurd (List.mem_singleton.mp hy) e
            · rw [setF_ne fun e => h2 (List.mem_append_right _ (by rw [e]; exact List.mem_cons_self))]
              exact tks.oth y h1 fun hy => h2 (List.mem_append_left _ hy)
          have key : (m.own.take (j + 1)).all (goodAt m.last (setF g z (v - 1))) = (good && decide (0 ≤ v - 1 ∧ v - 1 ≤ m.last)) := by
            rw [List.take_add_one, ez, List.all_append, eg]
            congr 1
            · refine all_ext fun y hy => ?_
              unfold goodAt
              rw [setF_ne fun e => nz (by rw [← e]; exact hy)]
            · show (goodAt m.last (setF g z (v - 1)) z && true) = _
              unfold goodAt
              rw [setF_same, Bool.and_true]
          refine ⟨v, 1, rfl, rfl, _, rfl, _, rfl, p, _, rfl, c1, ?_⟩
          refine ⟨_, rfl, good, rfl, ?_⟩
          cases good with
          | true =>
            refine iteT ⟨_, rfl, _, rfl, p, _, rfl, c2.at setF_same, 0, v - 1, rfl, rfl, _, rfl, ?_⟩
            by_cases hc : 0 ≤ v - 1
            · rw [decide_eq_true hc]
              refine iteT ⟨_, rfl, d, _, rfl, mk_by (kd sb2), v - 1, m.last, rfl, rfl, _, _, _, rfl, sb2, FL2, c2, tk2, ?_⟩
              rw [key, Bool.true_and]
              exact decide_eq_decide.mpr ⟨fun h => ⟨hc, h⟩, fun h => h.2⟩
            · rw [decide_eq_false hc]
              refine iteF ⟨_, _, _, rfl, sb2, FL2, c2, tk2, ?_⟩
              rw [key, decide_eq_false fun h => hc h.1]
              rfl
          | false => exact iteF ⟨_, _, _, rfl, sb2, FL2, c2, tk2, by rw [key]; rfl⟩
      · rintro σ H' ⟨g, good, y9, rfl, sb, FL, Dg, tks, eg⟩
        rw [List.length_map] at Dg
        have e0 : m.own.take (m.own.map V.str).length = m.own := List.take_of_length_le (by rw [List.length_map]; exact Nat.le_refl _)
        rw [e0] at tks eg
        have eg : good = goodF m g := eg
        -- the lengths that are heard
        refine fun e ne => ?_
        have sE := same_upd (o := .dK []) ne
        have neH := sb_frF sb FL ne
        obtain ⟨kvs, k1, k2, k3⟩ := Dg
        have npe : p ≠ e := ne_of_none k1 ne
        refine ⟨_, rfl, p, kvs, rfl, .inl (sE _ _ k1), fun r nr => ?_⟩
        have sR := same_upd (o := .dK kvs) nr
        have sER := sE.trans sR
        have nrH := sb_frF (sb.trans (Sb.of sE)) (FL.same sE) nr
        have npr : p ≠ r := ne_of_none (sE _ _ k1) nr
        have ner : e ≠ r := ne_of_none upd_same nr
        have sb0 := sb.trans (Sb.of sER)
        refine ⟨_, rfl, d, _, rfl, mk_wd (kd sb0), u, rfl, ⟨_, .inl (.inl (ku sb0))⟩, for_list (K := K) (a := u) (xs := ws) (fun j σ H2' => ∃ (sz : Fn) (y12 y13 y14 y15 y16 : Option V), σ = [some (.ref a), some (.ref f), some (.int (1 + v1)), some (.int v2), some (.ref d), some (.ref D), some (.int (0 + (i : Int))), some (.ref p), some (.bl good), y9, some (.ref e), some (.ref r), y12, y13, y14, y15, y16, y17] ∧ Sb f H9 H2' ∧ Flow H2' f c ∧ DFn H2' p g (1 + m.own.length) ∧ DFn H2' e sz j ∧ DFn H2' r ((m.wd.take j).foldl (stepH g sz) g) (1 + m.own.length + j) ∧ Lns (m.wd.take j) sz)
          ⟨fun _ => none, y12, y13, y14, y15, y16, rfl, sb0, FL.same sER, ⟨kvs, sER _ _ k1, k2, k3⟩, ⟨[], sR _ _ upd_same, TFn.nil, Nat.le_refl _⟩, ⟨kvs, upd_same, k2, k3⟩, ⟨fun x hx => (nomatch hx), fun x hx => (nomatch hx), fun _ _ => rfl⟩⟩ (fun j σ H' _ ⟨_, _, _, _, _, _, _, s, _⟩ => .inl (.inl (ku s))) ?_ ?_⟩
        · rintro j x σ H2' hx ⟨sz, y12, y13, y14, y15, y16, rfl, sb, FL, Dp, De, Dr, ln⟩
          obtain ⟨t, y, rfl, ey, ht⟩ := row_of (kr sb) hx
          have hj : j < m.wd.length := (List.getElem?_eq_some_iff.mp ey).1
          have hy := List.mem_of_getElem? ey
          have wo := ok.wd y hy
          have nye : ¬ y.en ∈ (m.wd.take j).map (·.en) := by
            rw [List.map_take]
            exact not_take (ends_nd ok) (by rw [List.getElem?_map, ey]; rfl)
          have emem : ∀ x, x ∈ m.wd.take (j + 1) → x ∈ m.wd.take j ∨ x = y := fun x hx => by
            rw [List.take_add_one, ey] at hx
            rcases List.mem_append.mp hx with hx | hx
            · exact .inl hx
            · exact .inr (List.mem_singleton.mp hx)
          have emap : ∀ z, ¬ z ∈ (m.wd.take (j + 1)).map (·.en) → ¬ z ∈ (m.wd.take j).map (·.en) ∧ ¬ z = y.en := fun z hz => by
            rw [List.take_add_one, ey, List.map_append] at hz
            exact ⟨fun h => hz (List.mem_append_left _ h), fun h => hz (List.mem_append_right _ (by rw [h]; exact List.mem_cons_self))⟩
          refine ⟨t, y.row, rfl, .inl (.inl ht), rfl, _, _, rfl, _, _, rfl, _, _, rfl, _, _, rfl, _, _, rfl, rfl, ?_⟩
          refine ⟨_, rfl, rfl, _, rfl, ?_⟩
          rw [oV_non]
          cases el : y.la with
          | none =>
            refine iteF ⟨sz, _, _, _, _, _, rfl, sb, FL, Dp, De.up (Nat.le_succ _), ?_, ?_⟩
            · rw [List.take_add_one, ey, List.foldl_append]
              show DFn H2' r (stepH g sz _ y) _
              unfold stepH
              rw [el]
              exact Dr.up (Nat.le_succ _)
            · refine ⟨fun x hx e1 => ?_, fun x hx i e1 => ?_, fun z hz => ln.oth z (emap z hz).1⟩
              · rcases emem x hx with hx | rfl
                · exact ln.qui x hx e1
                · exact ln.oth _ nye
              · rcases emem x hx with hx | rfl
                · exact ln.hrd x hx i e1
                · rw [el] at e1
                  cases e1
          | some i' =>
            refine iteT ?_
            refine ⟨_, rfl, _, rfl, _, rfl, _, rfl, y.hi, y.lo, rfl, rfl, y.hi - y.lo, 1, rfl, rfl, f, c, y.hi - y.lo + 1, rfl, FL, by have := wo.hi; omega, by have := wo.lo; have := wo.top; omega, fun v H3' v0 v1' sb' FL' => ?_⟩
            obtain ⟨xs', hf'⟩ := FL.lst
            have De' := De.sb sb' hf'
            have Dp' := Dp.sb sb' hf'
            have Dr' := Dr.sb sb' hf'
            obtain ⟨kv, c1, c2⟩ := De'.put y.en (y.lo + v) (small1000 (by omega))
            refine ⟨y.lo, v, rfl, rfl, _, rfl, _, rfl, e, _, rfl, c1, ?_⟩
            have FL2 : Flow (upd H3' e (.dK kv)) f c := by
              obtain ⟨k1, e1, _⟩ := De'
              exact FL'.putD e1
            have sb2 : Sb f H9 (upd H3' e (.dK kv)) := sb_put (sb.trans sb') neH
            have Dp2 := Dp'.oth (o := .dK kv) npe
            have Dr2 := Dr'.oth (o := .dK kv) ner.symm
            obtain ⟨bv, hb⟩ : ∃ v, g y.bg = some v := by
              rcases wo.bg with e1 | e1
              · exact ⟨0, by rw [e1]; exact tks.start⟩
              · exact tks.own _ e1
            obtain ⟨kv3, d1, d2⟩ := Dr2.put y.en (bv + (y.lo + v) + i') (small1000 (by omega))
            refine ⟨_, rfl, _, rfl, p, _, rfl, Dp2.at hb, _, rfl, _, rfl, e, _, rfl, c2.at setF_same, bv, y.lo + v, rfl, rfl, _, rfl, bv + (y.lo + v), i', rfl, rfl, _, rfl, _, rfl, r, _, rfl, d1, ?_⟩
            have FL3 : Flow (upd (upd H3' e (.dK kv)) r (.dK kv3)) f c := by
              obtain ⟨k1, e1, _⟩ := Dr2
              exact FL2.putD e1
            refine ⟨setF sz y.en (y.lo + v), _, _, _, _, _, rfl, sb_put sb2 nrH, FL3, Dp2.oth npr, c2.oth ner, ?_, ?_⟩
            · rw [List.take_add_one, ey, List.foldl_append]
              show DFn _ r (stepH g _ _ y) _
              have e1 : (m.wd.take j).foldl (stepH g (setF sz y.en (y.lo + v))) g = (m.wd.take j).foldl (stepH g sz) g := foldH_ext fun x hx => setF_ne fun e1 => nye (by rw [← e1]; exact List.mem_map.mpr ⟨x, hx, rfl⟩)
              rw [e1]
              unfold stepH
              rw [el, hb, setF_same]
              exact d2
            · refine ⟨fun x hx e1 => ?_, fun x hx i e1 => ?_, fun z hz => ?_⟩
              · rcases emem x hx with hx | rfl
                · rw [setF_ne fun e2 => nye (by rw [← e2]; exact List.mem_map.mpr ⟨x, hx, rfl⟩)]
                  exact ln.qui x hx e1
                · rw [el] at e1
                  cases e1
              · rcases emem x hx with hx | rfl
                · rw [setF_ne fun e2 => nye (by rw [← e2]; exact List.mem_map.mpr ⟨x, hx, rfl⟩)]
                  exact ln.hrd x hx i e1
                · exact ⟨_, setF_same, by omega, by omega⟩
              · rw [setF_ne (emap z hz).2]
                exact ln.oth z (emap z hz).1
        · rintro σ H2' ⟨sz, y12, y13, y14, y15, y16, rfl, sb, FL, Dp, De, Dr, ln⟩
          have e1 : ws.length = m.wd.length := by rw [h4.len, List.length_map]
          rw [e1, List.take_of_length_le (Nat.le_refl _)] at ln Dr
          rw [e1] at De
          have tk : Tk m g sz := ⟨tks.start, tks.own, fun z hz => tks.oth z (fun h => start_out ok (by rw [← h]; exact hz)) (fun h => own_out ok h hz), ln.qui, ln.hrd⟩
          have eW := whole ok tk
          have bin := bT_in ok tk
          have fin : ∀ (H' : Hp), Same H2' H' → Sb f H9 H' ∧ Flow H' f c ∧ MdAt H' d m ∧ RowsAt H' D ((bT m).map bRow) ∧ DFn H' r (hdF g sz m.wd) (1 + m.own.length + m.wd.length) := fun H' s => ⟨sb.trans (Sb.of s), FL.same s, M9.sb F9 (sb.trans (Sb.of s)), R9.sb F9 (sb.trans (Sb.of s)), Dr.same s⟩
          refine ⟨_, rfl, good, rfl, ?_⟩
          cases good with
          | true =>
            refine iteT ⟨_, rfl, _, rfl, _, rfl, d, p, e, m, g, sz, rfl, M9.sb F9 sb, ok, hsh, Dp.up (by omega), De.up (by omega), tk, fun H' s => ?_⟩
            obtain ⟨t1, t2, t3, t4, t5⟩ := fin H' s
            rw [← eg, Bool.true_and] at eW
            refine ⟨_, rfl, _, rfl, D, r, bT m, hdF g sz m.wd, _, rfl, t4, t5, bin, _, rfl, rfl, _, rfl, ?_⟩
            rw [eW, decide_eq_true rfl]
            exact iteF ⟨_, _, _, _, _, _, _, _, _, _, _, _, rfl, t2, t3, t4⟩
          | false =>
            refine iteF ?_
            obtain ⟨t1, t2, t3, t4, t5⟩ := fin H2' fun _ _ h => h
            rw [← eg, Bool.false_and] at eW
            refine ⟨_, rfl, _, rfl, D, r, bT m, hdF g sz m.wd, _, rfl, t4, t5, bin, _, rfl, rfl, _, rfl, ?_⟩
            rw [eW, decide_eq_true rfl]
            exact iteF ⟨_, _, _, _, _, _, _, _, _, _, _, _, rfl, t2, t3, t4⟩
    · rintro σ H9 ⟨y6, y7, y8, y9, y10, y11, y12, y13, y14, y15, y16, y17, rfl, F9, M9, R9⟩
      exact q H9
end
end Tw

set_option maxHeartbeats 0
namespace Tw
open PySem PySem.Spec PyProof.Rows L2
theorem facts {P : Program} {w : World} {K : PySem.W.Frag} {h : Heap} {mg : Str → Option Value} {f : Addr} (X : K.In h) (G : h.Ns mainGlobals mg) (hfa : mg ("law" : Str) = some (.ref f)) (c : He.SaysD fa fn K) :
    ∃ fd : FuncData, (∀ (s : Shared) (v : Value), BindsTo s fd ⟨[v], []⟩ [("_law_script", v)]) ∧ ∀ base : Heap, FnOk P w K mg base CX0 10 f fd ["_law_script"] (sp_law K) := by
  have T : Tp K mg := tp_mk X G c rfl
  have e := hfa.symm.trans (g_law T)
  cases e
  obtain ⟨fd, F⟩ := f_law T
  have b := FunD.bindsA (ps := ["_law_script"]) F fun _ _ _ _ _ _ us hl => match us, hl with
    | [_], _ => rfl
  exact ⟨fd, fun s v => b s [v] rfl, fun base => ok_law T F⟩
end Tw
open PySem PySem.W PySem.Calls PyProof.Rows
theorem PySem.Challenge.cw_tidewaiter_k09_whole_bounds_are_the_ties_holds : PySem.Challenge.rw_tidewaiter_k09_whole_bounds_are_the_ties.Holds := by
  w_on; o_law
  refine HandSHeadRun.head_any (r := Tw.R) (q := view Tw.R.prog [Tw.lawAt]) (H := Tw.hk) (ob := Tw.ob) (M := 8000) (loose := Tw.loose) (d := HandSHeadRun.topDef Tw.R.prog Tw.lawAt) (kwd := []) Tw.ob_eq
    (by kernel_rfl) (fun s => by kernel_rfl) Tw.run (by kernel_rfl) (by kernel_rfl) (by kernel_rfl) (by rfl) (by first | assumption | decide +kernel) (by decide +kernel) ⟨rfl, rfl, rfl, rfl, rfl, by decide +kernel⟩ ?hw ?hc
  case hw => w_witness2
  case hc =>
    refine L2.walk_ofE (l := PySem.Challenge.rw_tidewaiter_k09_whole_bounds_are_the_ties) (n := 63) (k := 10) (x := "_law_script") (CX := L2.CX0) rfl (by decide) (by kernel_rfl) ⟨rfl, by decide, by decide⟩ ?F (fun _ _ _ _ z => z)
    intro w mg fa h Y G hmg0
    obtain ⟨K, KX, c⟩ := Y
    have hmg : mg ("law" : PySem.Str) = some (.ref fa) := by
      have e : (HandSHeadRun.topDef Tw.R.prog Tw.lawAt).name = ("law" : PySem.Str) := by kernel_rfl
      rw [← e]
      exact hmg0
    obtain ⟨fd, hb, hF⟩ := Tw.facts (P := (PySem.Challenge.rw_tidewaiter_k09_whole_bounds_are_the_ties).prog) (w := w) KX G hmg c
    exact ⟨K, fd, Tw.sp_law K, KX, hb, fun H a ns hl _ hS => ⟨a, ns, rfl, hS, fun _ => rfl⟩, fun base _ _ => hF base⟩


import PyProof.Rows.All
import Wide.All
import OpenK.AllK
import Wide.FinOn
import KE.KStateDown
import Lean
import HandS.ForMost
import HandS.More
import HandS.Conv
import HandS.Flow
import HandS.Style
import HandS.Strs
import HandS.Codes
import HandS.SetFor
import HandS.TupSets
import HandS.SortRule
import HandS.SortInts
import HandS.TupLe
import HandS.TupAny
import HandS.IsInst
import HandS.RevTup
import HandS.Rev
import HandS.Zip
import KE.GoesEnum
import KE.GoesMore
import KE.GoesZip
import KE.KDictZip
import HandS.Walk
import HandS.SetKeys
import HandS.Defaults
import HandS.Wide
import HandS.Lambda
import HandS.GenOver
import HandS.DictComp
import HandS.AnyAll
import HandS.RevRange
import HandS.Head0
import HandS.Head1
import HandS.Head2
import HandS.HeadEnd
import HandS.HeadHook1
import HandS.HeadHook2
import HandS.HeadHook3
import HandS.HeadHook4
import HandS.EndTab
import HandS.HeadWalk
import KE.DatumOrd
import HandS.TupMul
import KE.KTupSum
import HandS.SetBool
import HandS.ExcIs
import HandS.TryMany
import HandS.TryOnly
import HandS.ExcOwn
import HandS.Exc
import KE.SortData
import KE.SortKeyHeap
import HandS.Deep
import HandS.HotCalls
import HandS.SortKw
import PySem.Challenge.RW_fewforests_k71_brims_by_all_lots
set_option Elab.async false
set_option linter.all false
set_option maxRecDepth 100000
set_option maxHeartbeats 0
namespace FF
open PySem PySem.Spec PyProof.Rows L2
/-- which tables of code objects are those of defs with a lambda (told when the text's end is reached) -/
class LT where
  lam : Addr → Bool
end FF
namespace FF
open PySem PySem.Spec PyProof.Rows L2
variable [LT]
/-! ### list(reversed(xs)) -/
section
variable {prog : Program} {w : World} {A : Around} {E : Value → Shared → Prop} {s : Shared}
theorem extRev {itr src : Addr} {its : Array Value} {R : Result → Shared → Prop} (calm : A.handled = none) (S : Addr) (res : Value) (c0 : Nat)
    (hS : s.heap.get? S = some { cls := .type "list", data := .seq #[] c0 }) (hit : s.heap.IsRevIter itr src ((its.size : Int) - 1)) (hl : s.heap.IsList src its) (hne : src ≠ itr) (hSi : S ≠ itr) (hSl : S ≠ src) (hn : its.size ≤ sizeLine)
    (fin : ∀ h' tk acc c, (∀ b o, b ≠ itr → b ≠ S → s.heap.get? b = some o → h'.get? b = some o) → h'.get? S = some { cls := .type "list", dict := none, data := .seq acc c, slots := #[] } →
      ItemsOf (fun i v => its[its.size - 1 - i]? = some v) acc its.size → R (.ok (.ret res)) { s with heap := h', toks := tk }) :
    wpAny (model prog w) A.in1 (Builtin.List.listExtendWith (.ref S) (.ref itr) res)
      (fun f s' => match f with | .done z => R (.ok z) s' | .again c' => c'.quiet = true ∧ codeAny (model prog w) A c' R s') (fun e s' => R (.error e) s') s := by
  have W := (Walks.listRev (prog := prog) (w := w) (A := A.in1) calm itr src hne its).toS
  have hT : s.TypeIs (.ref itr) "list_reverseiterator" := hit.typeIs
  have h1 : Builtin.List.listSameRef (.ref S) (.ref itr) = false := by simp [Builtin.List.listSameRef, hSi]
  unfold Builtin.List.listExtendWith
  refine wpAny_bind (wpAny_typeOf hT ?_)
  rw [if_neg (by rw [h1]; decide)]
  refine wpAny_bind (wpAny_pyIter_revIter hit ?_)
  refine wpAny_bind (wpAny_holding ?_)
  unfold Builtin.List.listLengthHint
  refine wpAny_bind (wpAny_specialOf hT RT.nolen_lri ?_)
  show wpAny _ A.in1 (specialOf (Value.ref itr) (Str.ofString "__length_hint__") >>= _) _ _ _
  refine wpAny_bind (wpAny_specialOf hT RT.hint_lri ?_)
  generalize hid : ("list_reverseiterator.__length_hint__" : String) = hint
  wp_delta
  rw [show splitId hint = some ("list_reverseiterator", "__length_hint__") from by subst hid; decide +kernel]
  subst hid
  refine wpAny_bind (wpAny_isInstance (b := true) hT (by rw [isSubtype_type]; kernel_rfl) ?_)
  refine wpAny_pure ?_
  rw [if_neg (by decide)]
  have e0 : ((its.size : Nat) : Int) - 1 - ((0 : Nat) : Int) = (its.size : Int) - 1 := by omega
  have hSf : S ∉ [itr, src] := by simp only [List.mem_cons, List.not_mem_nil, or_false, not_or]; exact ⟨hSi, hSl⟩
  refine wpAny_pure ⟨plainId_quiet F.plain_extend_loop _, codeAny_extend_loopS W hn S hSf _ its.size 0 _ _ _ rfl (Nat.zero_le _) ⟨Nat.zero_le _, by rw [e0]; exact hit, hl⟩ hS (ItemsOf.nil _) fun s' acc c hm hS' hacc => ?_⟩
  rw [Moved.eq_with hm]
  refine fin s'.heap s'.toks acc c (fun b o hb hb2 e => hm.heap b o (fun z => ?_) e) hS' hacc
  rcases List.mem_cons.mp z with z | z
  · exact hb2 z
  · exact hb (List.mem_singleton.mp z)
theorem initRev {itr src : Addr} {its : Array Value} {R : Result → Shared → Prop} (calm : A.handled = none) (S : Addr)
    (hS : s.heap.get? S = some { cls := .type "list", data := .seq #[] }) (hit : s.heap.IsRevIter itr src ((its.size : Int) - 1)) (hl : s.heap.IsList src its) (hne : src ≠ itr) (hSi : S ≠ itr) (hSl : S ≠ src) (hn : its.size ≤ sizeLine)
    (fin : ∀ h' tk acc c, (∀ b o, b ≠ itr → b ≠ S → s.heap.get? b = some o → h'.get? b = some o) → h'.get? S = some { cls := .type "list", dict := none, data := .seq acc c, slots := #[] } →
      ItemsOf (fun i v => its[its.size - 1 - i]? = some v) acc its.size → R (.ok (.ret .none)) { s with heap := h', toks := tk }) :
    wpAny (model prog w) A.in1 (Builtin.«list.__init__» ⟨[.ref S, .ref itr], []⟩)
      (fun f s' => match f with | .done z => R (.ok z) s' | .again c' => c'.quiet = true ∧ codeAny (model prog w) A c' R s') (fun e s' => R (.error e) s') s := by
  show wpAny _ _ (do let old ← Builtin.List.listItems (.ref S); Builtin.List.listUpdate (.ref S) (fun _ => #[]); letGo old.toList.reverse; Builtin.List.listExtendWith (.ref S) (.ref itr) .none) _ _ s
  refine wpAny_bind ?_
  unfold Builtin.List.listItems
  refine wpAny_bind (wpAny_seqItems hS rfl (wpAny_pure ?_))
  show wpAny _ _ (updateSeq S (fun _ => #[]) >>= fun _ => letGo (#[] : Array Value).toList.reverse >>= fun _ => Builtin.List.listExtendWith (.ref S) (.ref itr) .none) _ _ s
  refine wpAny_bind (wpAny_updateSeq hS rfl ?_)
  have hS2 := Heap.get?_update_self (Obj.mapSeq (fun _ => (#[] : Array Value))) hS rfl
  have oth : ∀ b o, b ≠ S → s.heap.get? b = some o → (s.heap.update S (Obj.mapSeq (fun _ => (#[] : Array Value)))).get? b = some o :=
    fun b o hb e => (Heap.get?_update_other _ _ (Ne.symm hb)).trans e
  refine wpAny_bind (wpAny_letGo ?_)
  obtain ⟨oi, hoi, ri⟩ := hit
  obtain ⟨ol, hol, rl⟩ := hl
  refine extRev (its := its) calm S .none _ hS2 ⟨oi, oth _ _ (Ne.symm hSi) hoi, ri⟩ ⟨ol, oth _ _ (Ne.symm hSl) hol, rl⟩ hne hSi hSl hn fun h' tk acc c hk hS' hacc => ?_
  exact fin h' tk acc c (fun b o hb hb2 e => hk b o hb hb2 (oth b o hb2 e)) hS' hacc
theorem listRev {itr src : Addr} {its : Array Value} {Q : Value → Shared → Prop} (calm : A.handled = none) (hit : s.heap.IsRevIter itr src ((its.size : Int) - 1)) (hl : s.heap.IsList src its) (hne : src ≠ itr) (hn : its.size ≤ sizeLine)
    (fin : ∀ h' tk acc c, (∀ b o, b ≠ itr → s.heap.get? b = some o → h'.get? b = some o) → h'.get? s.heap.objs.size = some { cls := .type "list", dict := none, data := .seq acc c, slots := #[] } →
      ItemsOf (fun i v => its[its.size - 1 - i]? = some v) acc its.size → Q (.ref s.heap.objs.size) { s with heap := h', toks := tk }) :
    wpAny (model prog w) A (call (.type "list") [.ref itr]) Q E s := by
  refine callType_codes (Q₁ := fun obj t => obj = .ref s.heap.objs.size ∧ t = { s with heap := s.heap.push { cls := .type "list", data := .seq #[] } }) F.called_list (F.typeCall_list_1 _) F.entry_list_init
    (code_list_new _ ⟨rfl, rfl⟩) fun obj t ht => ?_
  obtain ⟨rfl, rfl⟩ := ht
  have hS : (s.heap.push { cls := .type "list", data := .seq #[] }).get? s.heap.objs.size = some { cls := .type "list", data := .seq #[] } := Heap.get?_push_size _ rfl
  obtain ⟨oi, hoi, ri⟩ := hit
  obtain ⟨ol, hol, rl⟩ := hl
  refine ⟨⟨_, hS, rfl⟩, F.args_list_init_2 _ _, initRev (its := its) (A := A.in1) calm _ hS ⟨oi, Heap.get?_push_of_some _ hoi, ri⟩ ⟨ol, Heap.get?_push_of_some _ hol, rl⟩ hne (Nat.ne_of_gt (Heap.lt_size hoi)) (Nat.ne_of_gt (Heap.lt_size hol)) hn fun h' tk acc c hk hS' hacc => ?_⟩
  exact ⟨rfl, fin h' tk acc c (fun b o hb e => hk b o hb (Nat.ne_of_lt (Heap.lt_size e)) (Heap.get?_push_of_some _ e)) hS' hacc⟩
end
section
variable {X : Cx}
def tLstRev (K : PySem.W.Frag) (te : TE) : TE := fun σ H Q => te σ H fun v H1 => ∃ (a : Addr) (xs : List V), v = .ref a ∧ SqL K H1 a xs ∧ ∀ q, H1 q = none → Q (.ref q) (upd H1 q (.lst xs.reverse))
theorem pe_listRev {e : Expr} {te : TE} {p p2 pos pos2 : Pos} (hc : X.calm = true) (hg : Gl X "list") (hm : X.mg "list" = none) (hg2 : Gl X "reversed") (hm2 : X.mg "reversed" = none) (he : PE X e te)
    (hs : starEach [e] X.env = (false, eval e X.env) :: starEach [] X.env := by rfl)
    (hs2 : starEach [.Call (.Name "reversed" p2) [e] [] pos2] X.env = (false, eval (.Call (.Name "reversed" p2) [e] [] pos2) X.env) :: starEach [] X.env := by rfl) :
    PE X (.Call (.Name "list" p) [.Call (.Name "reversed" p2) [e] [] pos2] [] pos) (tLstRev X.K te) := by
  refine ⟨fun pins s σ H Q I h => ?_⟩
  refine Call_ (ld_blt I hg hm boot_list (PyProof.Rows.callWith_type1 (args_cons (Call_ (ld_blt I hg2 hm2 PyProof.Rows.boot_reversed (PyProof.Rows.callWith_type1 (args_cons (thn (he.run pins s σ H _ I h) fun u s1 ⟨v, H1, I1, r1, q1⟩ => args_nil ?_) hs) hs rfl))) hs2) hs2 rfl))
  obtain ⟨a, xs, ev, hq, q⟩ := q1
  subst ev
  obtain rfl : u = Value.ref a := r1
  obtain ⟨its, rv, pl, hz⟩ := I1.list hq
  refine call_reversed_list pl.isList (args_nil ?_)
  have I2 : Inv X pins σ H1 { s1 with heap := s1.heap.push (revObj a ((its.toArray.size : Int) - 1)) } := I1.kept (t' := s1.toks) fun b o e => Heap.get?_push_of_some _ e
  obtain ⟨f0, f1, f2, f3, f4, f5⟩ := I1.fpOk (H' := H1) (b := s1.heap.objs.size) (Nat.le_refl _) (I1.hok.fresh (Nat.le_refl _))
  have hl := pl.isList
  obtain ⟨ol, hol, _⟩ := id hl
  have hn : its.toArray.size ≤ sizeLine := by rw [List.size_toArray, ← rv.length]; exact hz
  refine listRev (s := { s1 with heap := s1.heap.push (revObj a ((its.toArray.size : Int) - 1)) }) (I1.ok.hd hc) ⟨_, Heap.get?_push_size _ rfl, rfl, rfl⟩ (hl.push _) (Nat.ne_of_lt (Heap.lt_size hol)) hn fun h' tk acc c hk hS hi => ?_
  have hfr : H1 (s1.heap.push (revObj a ((its.toArray.size : Int) - 1))).objs.size = none := I2.hok.fresh (Nat.le_refl _)
  have J := I2.step (H' := upd H1 (s1.heap.push (revObj a ((its.toArray.size : Int) - 1))).objs.size (.lst xs.reverse)) (h' := h') (g' := s1.gens) (d' := s1.drawn) (t' := tk) (ch := [s1.heap.objs.size])
    (fun b hb => by rw [List.mem_singleton.mp hb]; exact ⟨f3, f1, f4, f5⟩)
    (fun b o _ _ hc e _ => hk b o (fun z => hc (by rw [z]; exact List.mem_singleton.mpr rfl)) e)
    (fun b o _ _ hc e _ => ⟨o.slots, hk b o (fun z => hc (by rw [z]; exact List.mem_singleton.mpr rfl)) e⟩)
    (fun b o _ e n => by rw [upd_ne (Nat.ne_of_lt (Heap.lt_size e))]; exact n)
    (fun b o hc e => ⟨o, hk b o (fun z => hc (by rw [z]; exact List.mem_singleton.mpr rfl)) e⟩)
    (fun b ys e => by rw [upd_ne (ne_of_none e hfr)]; exact e) (fun b o ys e => by rw [upd_ne (ne_of_none e hfr)]; exact e) (fun b ps e => ⟨#[], by rw [upd_ne (ne_of_none e hfr), e]; simp⟩)
    (fun m hm => by
      obtain ⟨o, es, ep, ho, r⟩ := hm
      exact ⟨o, es, ep, hk _ o (Ne.symm f1) ho, r⟩)
    (fun b u e => by
      by_cases hb : b = (s1.heap.push (revObj a ((its.toArray.size : Int) - 1))).objs.size
      · rw [hb, upd_same] at e
        cases e
        rw [hb]
        exact ⟨by rw [List.length_reverse]; exact hz, acc.toList, c, RT.vals_rev rv hi, by rw [Array.toArray_toList]; exact hS⟩
      · rw [upd_ne hb] at e
        refine (I2.hok b u e).stay (fun d v hd q => hk d v ?_ q) (fun d q => by rw [upd_ne (ne_of_none q hfr)]; exact q) fun d ys q => by rw [upd_ne (ne_of_none q hfr)]; exact q
        rcases hd with rfl | hd
        · exact fun z => by rw [z, f0] at e; cases e
        · exact fun z => by rw [z, f0] at hd; cases hd) I2.bare
  exact ⟨.ref _, _, J, rfl, q _ hfr⟩
end
end FF
namespace FF
open PySem PySem.Spec PyProof.Rows L2
variable [LT]
/-! ### len(set(xs)), sorted(set(xs)) of ints -/
def nub (ns : List Int) : List Int := ns.foldl step_dedup []
theorem met_nub (ns : List Int) : firstMet (fun i => ns.getD i 0) ns.length = nub ns := by
  unfold firstMet nub
  have e : (List.range ns.length).map (fun i => ns.getD i 0) = ns := by
    apply List.ext_getElem
    · simp
    · intro i h1 h2
      simp [List.getElem?_eq_getElem h2]
  rw [e]
theorem nub_length (ns : List Int) : (nub ns).length ≤ ns.length := by
  rw [← met_nub]
  exact firstMet_length_le _ _
section
variable {X : Cx}
def tLenSetL (K : PySem.W.Frag) (ta : TE) : TE := fun σ H Q => ta σ H fun x H1 => ∃ (l : Addr) (ns : List Int), x = V.ref l ∧ SqL K H1 l (ns.map V.int) ∧ ns.length ≤ 1000 ∧ Q (.int (nub ns).length) H1
theorem pe_lenSetL {a : Expr} {ta : TE} {p p2 q pos : Pos} (hg : Gl X "len") (hm : X.mg "len" = none) (hg2 : Gl X "set") (hm2 : X.mg "set" = none) (ha : PE X a ta) (hc : X.calm = true := by rfl)
    (na : starEach [a] X.env = (false, eval a X.env) :: starEach [] X.env := by rfl) : PE X (.Call (.Name "len" p) [.Call (.Name "set" p2) [a] [] q] [] pos) (tLenSetL X.K ta) := by
  refine ⟨fun pins s σ H Q I h => Call_ (ld_blt I hg hm boot_len (PyProof.Rows.callWith_builtin1 (PyProof.Rows.args_cons (Call_ (ld_blt I hg2 hm2 boot_set ?_)) rfl) rfl rfl))⟩
  refine PyProof.Rows.callWith_type1 (PyProof.Rows.args_cons (thn (ha.run pins s σ H _ I h) fun v t ⟨x, G, J, rx, qx⟩ => PyProof.Rows.args_nil ?_) na) na rfl
  obtain ⟨l, ns, rfl, hq, hl, qx⟩ := qx
  cases rx
  obtain ⟨its, r, pl, hz⟩ := J.list hq
  have hlen : its.toArray.size = ns.length := by rw [List.size_toArray, ← r.length, List.length_map]
  refine call_set_list (J.ok.hd hc) pl.isList (by simpa using RZ.intsAre_vals r) (by rw [hlen]; unfold scanBound; omega) fun h' tk hS hk => PyProof.Rows.args_nil ?_
  rw [hlen, met_nub] at hS
  obtain ⟨o, es, ep, tb, ho, hex, hd, _, _, _, hf, hn⟩ := hS
  have J2 : Inv X pins σ G { t with heap := h', toks := tk } := J.kept fun b o e => hk b o (Heap.lt_size e) e
  have hnub := nub_length ns
  exact call_len_set ho hex hd hf (by rw [hn]; omega) ⟨.int (nub ns).length, G, J2.tok _, ⟨_, by rw [hn]⟩, qx⟩
end
section
variable {P : Program} {w : World} {A : Around} {E : Value → Shared → Prop} {s : Shared}
end
section
variable {X : Cx}
end
end FF
namespace FF
open PySem PySem.Spec PyProof.Rows L2
variable [LT]
/-! ### generator expressions: a turn, the frame, the protocol -/
section
variable {α : Type}
/-- what a generator expression is made of: its syntax, its frame's context, its iterator, the consumer's objects and what they hold -/
structure GxD (α : Type) where
  Z : Cx
  elt : Expr
  tg : Expr
  iter : Expr
  ifs : List Expr
  scope : Scope
  pos : Pos
  it : Addr
  fp : List Addr
  tn : Nat → Heap → Prop
  J : It
  prot : List Addr
  Acc : α → Heap → Prop
  W : Nat → Nat → α → Hp → Prop
  Yl : α → V → Hp → (α → Hp → Prop) → Prop
  Dn : α → Hp → Prop
  σ0 : L2.St
  vs : List Nat
abbrev GxD.expr (D : GxD α) : Expr := .GeneratorExp D.elt [⟨D.tg, D.iter, D.ifs, 0⟩] D.scope D.pos
abbrev GxD.loop (D : GxD α) : Code := .compLoop D.expr 0 (.ref D.it) .none D.Z.env
abbrev GxD.begin (D : GxD α) : Code := .compStart D.expr 0 (.ref D.it) .none D.Z.env
/-- the frame's invariant, the consumer's objects pinned as they stand -/
def GxD.Inv (D : GxD α) (pins : List (Addr × Obj)) (H : Hp) (s : Shared) : Prop :=
  pins.map (·.1) = D.prot ∧ L2.Inv D.Z pins D.σ0 H s ∧ ∀ b ∈ D.fp, FpOk D.Z pins H b
def GxD.Y (D : GxD α) : Protocol := fun _ s₀ v s kap => ∃ (i : Nat) (a : α) (pins : List (Addr × Obj)) (H : Hp) (x : V) (Nx : α → Hp → Prop),
  RelV x v ∧ s₀.gens.size ≤ s.gens.size ∧ D.Acc a s₀.heap ∧ (∀ p ∈ pins, s₀.heap.get? p.1 = some p.2) ∧ D.Inv pins H s ∧ D.tn (i + 1) s.heap ∧ D.Yl a x H Nx ∧
  ∀ (s' : Shared) (pins' : List (Addr × Obj)) (H' : Hp) (a' : α), D.Inv pins' H' s' → D.tn (i + 1) s'.heap → D.Acc a' s'.heap → Nx a' H' → kap (.send .none) s'
def GxD.P (D : GxD α) : Nat → Shared → Shared → Prop := fun _ s₀ s => ∃ (a : α) (pins : List (Addr × Obj)) (H : Hp),
  D.Acc a s₀.heap ∧ (∀ p ∈ pins, s₀.heap.get? p.1 = some p.2) ∧ D.Inv pins H s ∧ D.Dn a H
abbrev GxD.R (D : GxD α) : GenEnd := fun n s₀ r s => r = .ok .next ∧ D.P n s₀ s
/-- the syntax keeps to its rules; what a turn does -/
structure GxD.Ok (D : GxD α) (g : TG) (tt : TT) (te : TE) : Prop where
  calm : D.Z.calm = true
  xe : D.Z.xe = fun _ _ => False
  co : D.Z.env.scope.isCoroutine = false
  turn : Turn D.Z.prog D.Z.w D.Z.K D.tg D.J D.fp D.it D.tn
  pg : PG D.Z D.tg g
  pt : PTs D.Z D.ifs tt
  pe : PE D.Z D.elt te
  step : ∀ i m a H, D.W i m a H → (D.J.stop i H ∧ D.Dn a H) ∨ (D.J.go i H ∧ ∃ Nx : α → Hp → Prop, (∀ a' H', Nx a' H' → ∃ m', m' < m ∧ D.W (i + 1) m' a' H') ∧
    ∀ x H1, D.J.yld i H x H1 → g x D.σ0 H1 fun σ2 H2 => wipe σ2 D.vs = D.σ0 ∧ tt σ2 H2 fun b H3 => if b = true then te σ2 H3 fun y H4 => D.Yl a y H4 Nx else Nx a H3)
theorem gx_seg {D : GxD α} {g : TG} {tt : TT} {te : TE} (ok : D.Ok g tt te) {A : Around} (hA : A.over D.loop [] = D.Z.A) :
    ∀ (m i n : Nat) (s₀ s : Shared) (pins : List (Addr × Obj)) (H : Hp) (a : α), m < n → s₀.gens.size ≤ s.gens.size → D.Inv pins H s → D.tn i s.heap → D.Acc a s₀.heap → (∀ p ∈ pins, s₀.heap.get? p.1 = some p.2) → D.W i m a H →
      Seg (model D.Z.prog D.Z.w) A D.R D.Y n s₀ D.loop ((model D.Z.prog D.Z.w).den D.loop) [] s := by
  intro m
  induction m using Nat.strongRecOn with
  | _ m ih =>
    intro i n s₀ s pins H a hmn hz GI ht hacc hp0 hw
    obtain ⟨hpr, I, hf⟩ := GI
    have T := ok.turn
    show Seg _ A _ _ _ s₀ _ ((compTurn D.expr 0 (.ref D.it) .none D.Z.env).onRaise (leaving D.Z.env)) [] s
    rw [compTurn_gen, Sem.onRaise_eq_wrap]
    refine seg_bind_wrap (wpAny_standAt ?_)
    rcases ok.step i m a H hw with ⟨stop, dn⟩ | ⟨go, Nx, hNx, st⟩
    · refine seg_bind_wrap ?_
      rw [hA]
      refine thnF (T.done D.Z rfl rfl rfl ok.calm i pins s D.σ0 H (fun _ _ => False) I hf ht stop) fun r t ⟨hr, J⟩ => ?_
      subst hr
      exact seg_end (.ok .next) ⟨rfl, a, pins, H, hacc, hp0, ⟨hpr, J, hf⟩, dn⟩
    · refine seg_bind_wrap ?_
      rw [hA]
      refine GenW.wpAny_gsz hz (thnF (T.item D.Z rfl rfl rfl ok.calm i pins s D.σ0 H (fun _ _ => False) I hf ht go) fun r t ⟨u, hr, h1⟩ z0 => ?_)
      subst hr
      refine seg_bind_wrap ?_
      rw [hA]
      refine GenW.wpAny_gsz z0 (thnF h1 fun _ t1 ⟨x, H1, I1, r1, y1, tn1, n1⟩ z1 => ?_)
      have f1 : ∀ b ∈ D.fp, FpOk D.Z pins H1 b := fun b hb => ⟨n1 b hb, (hf b hb).2⟩
      have I1p := I1.pinned f1 (T.obj _ _ tn1)
      have hpg := ok.pg.run _ t1 D.σ0 H1 x u _ I1p r1 (st x H1 y1)
      rw [ok.xe] at hpg
      refine seg_bind_wrap ?_
      rw [hA]
      refine GenW.wpAny_gsz z1 (thnF hpg fun _ t2 ⟨σ2, H2, I2, w2, q2⟩ z2 => ?_)
      have hpt := ok.pt.run _ t2 σ2 H2 _ I2 q2
      rw [ok.xe] at hpt
      refine seg_bind_wrap ?_
      rw [hA]
      refine GenW.wpAny_gsz z2 (thnF hpt fun b t3 ⟨H3, I3, q3⟩ z3 => ?_)
      -- what holds at the turn's end
      have fin : ∀ {t' : Shared} {H' : Hp}, L2.Inv D.Z (pins ++ pinsAt D.fp t1.heap) σ2 H' t' → D.Inv pins H' t' ∧ D.tn (i + 1) t'.heap := fun {t' H'} J => by
        have pin' : ∀ b ∈ D.fp, ∀ o, t1.heap.get? b = some o → t'.heap.get? b = some o ∧ H' b = none := fun b hb o e =>
          let z := J.pin (b, o) (List.mem_append_right _ (List.mem_append_right _ (mem_pinsAt hb e)))
          ⟨z.1, z.2.1⟩
        have hl : D.σ0.length = σ2.length := by rw [← w2, wipe_length]
        refine ⟨⟨hpr, J.unpinned.weak hl (fun j v e => by rw [← w2] at e; exact (wipe_some e).1), fun b hb => ?_⟩, T.keep _ _ _ tn1 fun b hb o e => (pin' b hb o e).1⟩
        obtain ⟨o, e, _⟩ := T.obj _ _ tn1 b hb
        exact ⟨(pin' b hb o e).2, (hf b hb).2⟩
      cases b with
      | false =>
        simp only [Bool.false_eq_true, if_false] at q3 ⊢
        obtain ⟨m', hm', w'⟩ := hNx a H3 q3
        obtain ⟨G3, tn3⟩ := fin I3
        exact seg_again rfl (ih m' hm' (i + 1) n s₀ t3 pins H3 a (by omega) z3 G3 tn3 hacc hp0 w')
      | true =>
        simp only [if_true] at q3 ⊢
        have hy : ∀ v, yieldOut D.Z.env v = yieldValue v := fun v => by simp only [yieldOut, ok.co, Bool.false_eq_true, if_false]
        simp only [hy]
        rw [Sem.bind_eq_wrap', Sem.bind_eq_wrap', Sem.wrap_wrap, Sem.wrap_wrap]
        have hpe := ok.pe.run _ t3 σ2 H3 _ I3 q3
        rw [ok.xe] at hpe
        refine seg_wrap ?_
        rw [hA]
        refine GenW.wpAny_gsz z3 (thnF hpe fun y t4 ⟨z, H4, I4, r4, q4⟩ z4 => ?_)
        obtain ⟨n', rfl⟩ : ∃ n', n = n' + 1 := ⟨n - 1, by omega⟩
        obtain ⟨G4, tn4⟩ := fin I4
        refine seg_at (seg_yield rfl rfl rfl ⟨i, a, pins, H4, z, Nx, r4, z4, hacc, hp0, G4, tn4, q4, fun t' pins' H' a' G' tn' hacc' nx => ?_⟩)
        obtain ⟨m', hm', w'⟩ := hNx a' H' nx
        exact seg_again rfl (ih m' hm' (i + 1) n' t' t' pins' H' a' (by omega) (Nat.le_refl _) G' tn' hacc' (fun p hp => (G'.2.1.pin p (List.mem_append_right _ hp)).1) w')
theorem gx_begin {D : GxD α} {g : TG} {tt : TT} {te : TE} (ok : D.Ok g tt te) {A : Around} (hA : A.over D.loop [] = D.Z.A) {m n : Nat} {s : Shared} {pins : List (Addr × Obj)} {H : Hp} {a : α}
    (hmn : m < n) (G : D.Inv pins H s) (ht : D.tn 0 s.heap) (hacc : D.Acc a s.heap) (hw : D.W 0 m a H) :
    Seg (model D.Z.prog D.Z.w) A D.R D.Y n s D.begin ((model D.Z.prog D.Z.w).den D.begin) [] s := by
  have loop := gx_seg ok hA m 0 n s s pins H a hmn (Nat.le_refl _) G ht hacc (fun p hp => (G.2.1.pin p (List.mem_append_right _ hp)).1) hw
  show Seg _ A _ _ _ s _ ((compStart D.expr 0 (.ref D.it) .none D.Z.env).onRaise (leaving D.Z.env)) [] s
  unfold compStart
  rw [Sem.onRaise_eq_wrap]
  show Seg _ A _ _ _ s _ ((ask >>= _).wrap _ _ _ _) [] s
  refine seg_bind_wrap (wpAny_askSetting ?_)
  split
  · exact seg_again rfl loop
  · first
      | exact seg_bind_wrap (wpAny_rule (seg_bind_wrap (wpAny_standAt (seg_bind_wrap (ok.turn.self _ 0 s _ _ ht (seg_again rfl loop))))))
      | (refine seg_bind_wrap (wpAny_rule ?_); show Seg _ A _ _ _ s _ ((standAt D.iter.pos >>= _).wrap _ _ _ _) [] s; exact seg_bind_wrap (wpAny_standAt (seg_bind_wrap (ok.turn.self _ 0 s _ _ ht (seg_again rfl loop)))))
end
end FF
namespace FF
open PySem PySem.Spec PyProof.Rows L2
variable [LT]
/-! ### generator expressions: the consumer's side -/
section
variable {α : Type}
theorem Inv.gens {X : Cx} {pins : List (Addr × Obj)} {σ : L2.St} {H : Hp} {s : Shared} (I : L2.Inv X pins σ H s) {G : Array GenState} (hG : AllBare G) : L2.Inv X pins σ H { s with gens := G } :=
  ⟨I.ok, I.os, hG, I.base, I.loc, I.cell, I.free, I.freeC, I.pin, I.hok, I.len⟩
theorem bare_set {G : Array GenState} {g : Nat} {x : GenState} (h : AllBare G) (hx : x.bare = true) : AllBare (G.setIfInBounds g x) := fun y hy => by
  obtain ⟨i, hi, rfl⟩ := Array.mem_iff_getElem.mp hy
  rw [Array.getElem_setIfInBounds (by simpa using hi)]
  split
  · exact hx
  · exact h _ (Array.getElem_mem _)
theorem GxD.Inv.setGen {D : GxD α} {pins : List (Addr × Obj)} {H : Hp} {s : Shared} (G : D.Inv pins H s) {g : Nat} {x : GenState} (hx : x.bare = true) : D.Inv pins H (s.setGen g x) :=
  ⟨G.1, Inv.gens G.2.1 (bare_set G.2.1.bare hx), G.2.2⟩
/-- the generator g at ga sleeps; n: more than it will hand out; a: what the consumer has -/
structure GxD.Live (D : GxD α) (A : Around) (ga : Addr) (g n : Nat) (a : α) (s : Shared) : Prop where
  mem : ga ∈ D.prot
  isg : s.heap.IsGen ga g
  acc : D.Acc a s.heap
  inv : ∃ pins H, D.Inv pins H s
  go : ∃ gs, s.gens[g]? = some gs ∧ gs.Goes (model D.Z.prog D.Z.w) A.in1 D.R D.Y n (.send .none) (s.setGen g .running)
/-- it has handed out x, the heap is H; where the consumer comes to Nx it lives on -/
structure GxD.Told (D : GxD α) (A : Around) (ga : Addr) (g n : Nat) (a : α) (x : V) (H : Hp) (Nx : α → Hp → Prop) (s : Shared) : Prop where
  inv : ∃ pins, D.Inv pins H s
  acc : D.Acc a s.heap
  yl : D.Yl a x H Nx
  isg : s.heap.IsGen ga g
  on : ∃ i, D.tn (i + 1) s.heap ∧ ∀ (s' : Shared) (pins' : List (Addr × Obj)) (H' : Hp) (a' : α), s'.gens = s.gens → s'.heap.IsGen ga g → D.Inv pins' H' s' → D.tn (i + 1) s'.heap → D.Acc a' s'.heap → Nx a' H' → ∃ n', n = n' + 1 ∧ D.Live A ga g n' a' s'
theorem pins_same {D : GxD α} {pins : List (Addr × Obj)} {H : Hp} {s s₀ : Shared} (G : D.Inv pins H s) (h0 : ∀ p ∈ pins, s₀.heap.get? p.1 = some p.2) {b : Addr} (hb : b ∈ D.prot) : s.heap.get? b = s₀.heap.get? b := by
  rw [← G.1] at hb
  obtain ⟨p, hp, e⟩ := List.mem_map.mp hb
  rw [← e, (G.2.1.pin p (List.mem_append_right _ hp)).1, h0 p hp]
theorem gx_next {D : GxD α} {A : Around} {ga : Addr} {g n : Nat} {a : α} {s : Shared} {Q : Option Value → Shared → Prop} {E : Value → Shared → Prop} (calm : A.handled = none) (room : A.depth < recursionLimit)
    (hfun : ∀ a a' h, D.Acc a h → D.Acc a' h → a = a') (hpr : ∀ a h h', (∀ b ∈ D.prot, h'.get? b = h.get? b) → D.Acc a h → D.Acc a h') (L : D.Live A ga g n a s)
    (some_ : ∀ v x H Nx t, RelV x v → D.Told A ga g n a x H Nx t → Q (some v) t)
    (none_ : ∀ pins H t, D.Inv pins H t → D.Dn a H → Q none t) :
    wpAny (model D.Z.prog D.Z.w) A (pyNext (.ref ga)) Q E s := by
  obtain ⟨pins0, H0, G0⟩ := L.inv
  obtain ⟨gs, hgs, hgo⟩ := L.go
  refine wpAny_pyNext_genexpQ (P := D.P) (Y := D.Y) (n := n) calm G0.2.1.nolimit room L.isg hgs hgo (fun v t gs' hb hv => ?_) (fun t hp h' hk => ?_)
  · obtain ⟨i, a1, pins, H, x, Nx, rx, hz, hacc, h0, G, htn, hyl, kap⟩ := hv
    have ea : a1 = a := hfun _ _ _ hacc L.acc
    subst ea
    have same : ∀ b ∈ D.prot, t.heap.get? b = s.heap.get? b := fun b hb' => pins_same G h0 hb'
    have isg : t.heap.IsGen ga g := by
      obtain ⟨o, nm, qn, ho, r⟩ := L.isg
      exact ⟨o, nm, qn, (same ga L.mem).trans ho, r⟩
    refine some_ v x H Nx _ rx ⟨⟨pins, G.setGen hb⟩, hpr _ _ _ same hacc, hyl, isg, i, htn, fun s' pins' H' a' hge isg' G' htn' hacc' nx => ?_⟩
    have kp := kap (s'.setGen g .running) pins' H' a' (G'.setGen rfl) htn' hacc' nx
    cases n with
    | zero => exact kp.elim
    | succ n' =>
    refine ⟨n', rfl, L.mem, isg', hacc', ⟨_, _, G'⟩, gs', ?_, kp⟩
    rw [hge]
    · have hlt : g < t.gens.size := by
        have h1 : g < s.gens.size := (Array.getElem?_eq_some_iff.mp hgs).1
        have h2 : (s.setGen g .running).gens.size = s.gens.size := by simp [Shared.setGen]
        omega
      simp [Shared.setGen, hlt]
  · obtain ⟨a1, pins, H, hacc, h0, G, hdn⟩ := hp
    have ea : a1 = a := hfun _ _ _ hacc L.acc
    subst ea
    exact none_ pins H _ ⟨G.1, Inv.gens (G := (t.setGen g .finished).gens) (G.2.1.kept (t' := t.toks) hk) (bare_set G.2.1.bare rfl), G.2.2⟩ hdn
theorem GxD.Told.stay {D : GxD α} {A : Around} {ga : Addr} {g n : Nat} {a a' : α} {x : V} {H : Hp} {Nx : α → Hp → Prop} {s : Shared} (T : D.Told A ga g n a x H Nx s) (tk : Nat) (nx : Nx a' H) (ha : D.Acc a' s.heap) :
    ∃ n', n = n' + 1 ∧ D.Live A ga g n' a' { s with toks := tk } := by
  obtain ⟨pins, G⟩ := T.inv
  obtain ⟨i, ht, on⟩ := T.on
  exact on { s with toks := tk } pins H a' rfl T.isg ⟨G.1, G.2.1.tok tk, G.2.2⟩ ht ha nx
/-- any(..), all(..): where k is not yet, the next; where it is, the end -/
def ylAll (stop : Bool) (Fl : Hp → Prop) : Unit → V → Hp → (Unit → Hp → Prop) → Prop := fun _ x H Nx => ∃ k, x = .bl k ∧ if k = stop then Fl H else Nx () H
theorem unit_fun {D : GxD Unit} : ∀ a a' h, D.Acc a h → D.Acc a' h → a = a' := fun _ _ _ _ _ => rfl
theorem any_loop {D : GxD Unit} {A : Around} {ga : Addr} {g : Nat} {R : Result → Shared → Prop} {Fl : Hp → Prop} (calm : A.handled = none) (room : A.depth < recursionLimit) (hyl : D.Yl = ylAll true Fl) (hac : D.Acc = fun _ _ => True)
    (no : ∀ pins H t, D.Inv pins H t → D.Dn () H → R (.ok (.ret (.bool false))) t) (yes : ∀ pins H t, D.Inv pins H t → Fl H → R (.ok (.ret (.bool true))) t) :
    ∀ n s, D.Live A.in1 ga g n () s → codeAny (model D.Z.prog D.Z.w) A (.builtin "any.loop" ⟨[.ref ga], []⟩) R s := by
  intro n
  induction n using Nat.strongRecOn with
  | _ n ih =>
    intro s L
    refine codeAny_builtin F.entry_any_loop ?_
    rw [Around.under_plainId F.plain_any_loop _]
    show wpAny _ A.in1 (pyNext (.ref ga) >>= _) _ _ s
    refine wpAny_bind (gx_next (A := A.in1) calm room unit_fun (fun _ _ _ _ _ => by rw [hac]; trivial) L (fun v x H Nx t rx T => ?_) (fun pins H t G dn => ?_))
    · have yl := T.yl
      rw [hyl] at yl
      obtain ⟨k, rfl, q⟩ := yl
      obtain rfl : v = .bool k := rx
      refine wpAny_bind (wpAny_holding (wpAny_truthy_bool (wpAny_bind (wpAny_letGo ?_))))
      cases k with
      | false =>
        simp only [Bool.false_eq_true, if_false] at q
        simp only [Bool.false_eq_true, if_false]
        obtain ⟨n', rfl, L'⟩ := T.stay (a' := ()) t.toks q (by rw [hac]; trivial)
        exact wpAny_pure ⟨plainId_quiet F.plain_any_loop _, ih n' (Nat.lt_succ_self _) t L'⟩
      | true =>
        simp only [if_true] at q
        simp only [if_true]
        obtain ⟨pins, G⟩ := T.inv
        exact wpAny_bind (wpAny_rule (wpAny_pure (yes pins H t G q)))
    · exact wpAny_bind (wpAny_rule (wpAny_pure (no pins H t G dn)))
/-- the consumer's own object at S is written anew -/
structure GxD.Own (D : GxD α) (ga S : Addr) : Prop where
  prot : D.prot = [ga, S]
  ne : S ≠ ga
  young : D.Z.s_0.heap.objs.size ≤ S
  loc : S ≠ D.Z.env.locals
  cel : ∀ x c, D.Z.env.cells.lookup x = some c → c ≠ S
  pn : D.Z.pn = []
theorem GxD.Told.write {D : GxD α} {A : Around} {ga S : Addr} {g n : Nat} {a a' : α} {x : V} {H : Hp} {Nx : α → Hp → Prop} {s : Shared} (T : D.Told A ga g n a x H Nx s) (hT : ∀ i h h', D.tn i h → (∀ b ∈ D.fp, ∀ o, h.get? b = some o → h'.get? b = some o) → D.tn i h')
    (ow : D.Own ga S) {h' : Heap} {o : Obj} (tk : Nat) (hk : ∀ b u, b ≠ S → s.heap.get? b = some u → h'.get? b = some u) (hS : h'.get? S = some o) (hcell : ∀ v, o.data ≠ .cell v) (nx : Nx a' H) (ha : D.Acc a' h') :
    ∃ n', n = n' + 1 ∧ D.Live A ga g n' a' { s with heap := h', toks := tk } := by
  obtain ⟨pins, hpr, I, hf⟩ := T.inv
  obtain ⟨i, ht, on⟩ := T.on
  obtain ⟨hgp, hSp⟩ : ga ∈ D.prot ∧ S ∈ D.prot := by rw [ow.prot]; simp
  have pinOf : ∀ b ∈ D.prot, ∃ p ∈ pins, p.1 = b := fun b hb => by
    rw [← hpr] at hb
    obtain ⟨p, hp, e⟩ := List.mem_map.mp hb
    exact ⟨p, hp, e⟩
  obtain ⟨pg, hpg, epg⟩ := pinOf ga hgp
  obtain ⟨pS, hpS, epS⟩ := pinOf S hSp
  have nfp : ∀ b ∈ D.fp, b ≠ S := fun b hb z => by
    have := (hf b hb).2.2.2.2.2 pS (List.mem_append_right _ hpS)
    rw [epS] at this
    exact this z.symm
  obtain ⟨gE, gN, gL, gF, gC⟩ := I.pin pg (List.mem_append_right _ hpg)
  obtain ⟨sE, sN, sL, sF, sC⟩ := I.pin pS (List.mem_append_right _ hpS)
  rw [epg] at gE gN gL gF
  rw [epS] at sE sN sL sF
  have I0 : L2.Inv D.Z [] D.σ0 H s := I.pins_of fun p hp => nomatch hp
  have nt : ∀ b u, H b = some u → b ≠ S := fun b u e z => by rw [z, sN] at e; cases e
  have J0 : L2.Inv D.Z [] D.σ0 H { s with heap := h', toks := tk } := by
    refine I0.step (h' := h') (g' := s.gens) (d' := s.drawn) (t' := tk) (ch := [S]) (fun b hb => ?_) (fun b u _ _ hc e _ => hk b u (fun z => hc (by rw [z]; exact List.mem_singleton.mpr rfl)) e)
      (fun b u _ _ hc e _ => ⟨u.slots, hk b u (fun z => hc (by rw [z]; exact List.mem_singleton.mpr rfl)) e⟩) (fun _ _ _ _ e => e) (fun b u hc e => ⟨u, hk b u (fun z => hc (by rw [z]; exact List.mem_singleton.mpr rfl)) e⟩)
      (fun _ _ e => e) (fun _ _ _ e => e) (fun b ps e => ⟨#[], by rw [e]; simp⟩) (fun m hm => ?_) (fun b u e => ?_) I0.bare
    · rw [List.mem_singleton.mp hb]
      refine ⟨.inr ow.young, ow.loc, ow.cel, fun p hp => ?_⟩
      rw [ow.pn] at hp
      exact nomatch hp
    · obtain ⟨ob, es, ep, ho, r⟩ := hm
      exact ⟨ob, es, ep, hk _ ob (Ne.symm ow.loc) ho, r⟩
    · refine (I0.hok b u e).stay (fun c v hc q => hk c v ?_ q) (fun _ q => q) fun _ _ q => q
      rcases hc with rfl | hc
      · exact nt _ _ e
      · exact nt _ _ hc
  have gE' : h'.get? ga = some pg.2 := hk _ _ (Ne.symm ow.ne) gE
  have J : L2.Inv D.Z [(ga, pg.2), (S, o)] D.σ0 H { s with heap := h', toks := tk } := J0.pins_of fun p hp => by
    rcases List.mem_cons.mp hp with rfl | hp
    · exact ⟨gE', gN, gL, gF, gC⟩
    · rw [List.mem_singleton.mp hp]
      exact ⟨hS, sN, sL, sF, hcell⟩
  have isg : h'.IsGen ga g := by
    obtain ⟨ob, nm, qn, ho, r⟩ := T.isg
    exact ⟨ob, nm, qn, hk _ _ (Ne.symm ow.ne) ho, r⟩
  refine on { s with heap := h', toks := tk } _ H a' rfl isg ⟨by rw [ow.prot]; rfl, J, fun b hb => ?_⟩ (hT _ _ _ ht fun b hb u e => hk b u (nfp b hb) e) ha nx
  obtain ⟨f0, f1, f2, f3, f4, f5⟩ := hf b hb
  refine ⟨f0, f1, f2, f3, f4, fun p hp => ?_⟩
  rw [ow.pn] at hp
  rcases List.mem_cons.mp (show p ∈ [(ga, pg.2), (S, o)] from hp) with rfl | hp
  · have := f5 pg (List.mem_append_right _ hpg)
    rw [epg] at this
    exact this
  · rw [List.mem_singleton.mp hp]
    exact (nfp b hb).symm
end
end FF
namespace FF
open PySem PySem.Spec PyProof.Rows L2
variable [LT]
/-! ### generator expressions: made -/
/-- the context of a generator expression's frame -/
abbrev gcx (X : Cx) (A : Around) (N : List Str) (s : Shared) (H : Hp) (cenv : Env) (fp : List Addr) : Cx :=
  { X with A := A, N := N, s_0 := s, H_0 := H, env := cenv, outer := X.stack, stack := cenv :: X.stack, ex := fp, fn := fun _ => false, calm := true, pn := [], xe := fun _ _ => False }
/-- its names: own ones, and those that the def (names XN) has as cells; src tells where these stand there -/
structure GxS (XN : List Str) (xsc scope : Scope) (N : List Str) (src : List (Option Nat)) : Prop where
  kind : scope.kind = .function
  co : scope.isCoroutine = false
  cell : ∀ y ∈ scope.names, y.2 ≠ .cell
  dot : scope.names.lookup (".0" : Str) = some NameKind.local
  free : ∀ y ∈ scope.names, y.2 = .free → xsc.names.lookup y.1 = some .cell ∨ xsc.names.lookup y.1 = some .free
  len : src.length = N.length
  nd : N.Nodup
  cap : ∀ (i j : Nat), src[i]? = some (some j) → ∃ x, N[i]? = some x ∧ XN[j]? = some x ∧ scope.names.lookup x = some .free
def gxσ (src : List (Option Nat)) (σ : L2.St) : L2.St := src.map fun o => match o with
  | some j => (σ[j]?).getD none
  | none => none
/-- a table of code objects of generator expressions stands at P -/
def TabG (H : Hp) (P : Addr) : Prop := ∃ ps : Array Value, H P = some (.tbl ps) ∧ TriplesOk ps.toList ∧ LT.lam P = false
/-- H' is H but for the table at P, which may have grown -/
def Tabd (P : Addr) (H H' : Hp) : Prop := TabG H' P ∧ ∀ b, b ≠ P → H' b = H b
section
variable {X : Cx} {pins : List (Addr × Obj)} {σ : L2.St} {H : Hp} {s : Shared}
theorem gx_inv {scope : Scope} {N : List Str} {src : List (Option Nat)} {fp : List Addr} {A : Around} {code : Value} {h' : Heap} {itv : Value} {gs : GenState} {tk : Nat} {og : Obj} (S : GxS X.N X.env.scope scope N src) (I : L2.Inv X pins σ H s) (hfp : ∀ b ∈ fp, FpOk X pins H b ∧ b < s.heap.objs.size)
    (hA : A.handled = none) (hF : A.frames = some (genEnv scope (cloFrom X.env.cells scope.names []) s.heap.objs.size code builtinsNs X.env :: X.stack)) (hgs : gs.bare = true)
    (hn : h'.Ns s.heap.objs.size (fun y => if y = ".0" then some itv else none)) (hs : Heap.SameBut s.heap.objs.size (s.heap.push { cls := .type "frame", data := .dict #[] }) h') :
    L2.Inv (gcx X A N s H (genEnv scope (cloFrom X.env.cells scope.names []) s.heap.objs.size code builtinsNs X.env) fp) [] (gxσ src σ) H { s with gens := s.gens.push gs, toks := tk, heap := h'.push og } := by
  have hfree : ∀ y ∈ scope.names, y.2 = .free → ∃ c, X.env.cells.lookup y.1 = some c := fun y hy e => by
    rcases S.free y hy e with k | k
    · exact I.ok.has _ (.inl k)
    · exact I.ok.has _ (.inr k)
  have kp : ∀ b o, s.heap.get? b = some o → (h'.push og).get? b = some o := fun b o e => Heap.get?_push_of_some _ (hs.extBut b o (Nat.ne_of_lt (Heap.lt_size e)) (Heap.get?_push_of_some _ e))
  have cm : ∀ {y c}, (cloFrom X.env.cells scope.names []).lookup y = some c → X.env.cells.lookup y = some c ∧ c < s.heap.objs.size := fun {y c} e => by
    rcases cloFrom_mem (PySem.mem_of_lookup e) with z | ⟨h1, h2⟩
    · cases z
    · obtain ⟨c', hc⟩ := hfree _ h1 rfl
      rw [hc] at h2
      have h2 : c = c' := h2
      rw [h2]
      obtain ⟨v, z⟩ := I.cell _ _ hc
      exact ⟨hc, z.lt⟩
  have has : ∀ {y}, scope.names.lookup y = some .free → ∃ c, (cloFrom X.env.cells scope.names []).lookup y = some c := fun {y} hl => by
    obtain ⟨c, e⟩ := mem_lookup (cloFrom_has (cells := X.env.cells) (acc := []) (PySem.mem_of_lookup hl))
    exact ⟨c, e⟩
  have okZ : (gcx X A N s H (genEnv scope (cloFrom X.env.cells scope.names []) s.heap.objs.size code builtinsNs X.env) fp).Ok := by
    refine ⟨I.ok.mod, S.kind, I.ok.glob, rfl, Nat.le_refl _, fun y z c e1 e2 => I.ok.inj y z c (cm e1).1 (cm e2).1, fun y hy => ?_, fun y c z e => (Bool.false_ne_true z).elim, fun _ => hA, hF, .inr ⟨rfl, rfl⟩, fun b hb => ⟨Nat.ne_of_lt (hfp b hb).2, fun y c e => (hfp b hb).1.2.2.2.2.1 y c (cm e).1⟩, I.bs, Nat.le_trans I.ok.bsz I.sz, fun b o e hb => ?_, fun b hb z => ?_, I.stack, I.stkFree⟩
    · rcases hy with hy | hy
      · exact absurd rfl (S.cell _ (PySem.mem_of_lookup hy))
      · exact has hy
    · rcases (hfp b hb).1.2.2.2.1 with z | z
      · exact I.ok.noex b o e z
      · exact absurd (Nat.lt_of_lt_of_le (Heap.lt_size e) (Nat.le_trans I.ok.bsz z)) (Nat.lt_irrefl _)
    · rcases List.mem_cons.mp (I.stkSub b z) with z | z
      · exact (hfp b hb).1.2.1 z
      · exact (hfp b hb).1.2.2.1 z
  refine ⟨okZ, rfl, I.bare.push hgs, Un.kept kp, ⟨_, hn.push og, fun i y v e1 e2 e3 => ?_⟩, fun y c e => ?_, I.hok.fresh (Nat.le_refl _), fun y c e => I.freeC y c (cm e).1, fun p hp => absurd (show p ∈ ([] : List (Addr × Obj)) ++ [] from hp) (by simp), I.hok.kept kp, ?_⟩
  · -- the captured names
    unfold gxσ at e2
    rw [List.getElem?_map] at e2
    cases hsrc : src[i]? with
    | none => rw [hsrc] at e2; cases e2
    | some o =>
      rw [hsrc] at e2
      cases o with
      | none => exact absurd (show (some (none : Option V)) = some (some v) from e2) (by simp)
      | some j =>
        have e2 : some ((σ[j]?).getD none) = some (some v) := e2
        have e4 : σ[j]? = some (some v) := by
          cases hj : σ[j]? with
          | none => rw [hj] at e2; exact absurd (Option.some.inj e2) (by simp)
          | some w => rw [hj] at e2; exact congrArg some (Option.some.inj e2)
        obtain ⟨x, hx1, hx2, hx3⟩ := S.cap i j hsrc
        have exy : x = y := Option.some.inj (hx1.symm.trans e1)
        subst exy
        obtain ⟨m, hm, hl⟩ := I.loc
        have hsc := S.free _ (PySem.mem_of_lookup hx3) rfl
        have hvis : Vis X.env.scope x := hsc.elim (fun k => .inr (.inl k)) (fun k => .inr (.inr k))
        obtain ⟨u, ru, lk⟩ := hl j x v hx2 e4 hvis
        refine ⟨u, ru, .inr ⟨.inr hx3, ?_⟩⟩
        obtain ⟨c, hc⟩ := has hx3
        refine ⟨c, hc, ?_⟩
        rcases lk with ⟨k, _⟩ | ⟨_, c', e', z⟩
        · have k : X.env.scope.names.lookup x = some .local := k
          rcases hsc with q | q <;> rw [show X.env.scope.names.lookup x = _ from q] at k <;> cases k
        · have := (cm hc).1
          rw [e'] at this
          cases this
          exact z.keeps kp
  · obtain ⟨v, z⟩ := I.cell y c (cm e).1
    exact ⟨v, z.keeps kp⟩
  · show (gxσ src σ).length = N.length
    unfold gxσ
    rw [List.length_map]
    exact S.len
end
end FF
namespace FF
open PySem PySem.Spec PyProof.Rows L2
variable [LT]
/-! ### generator expressions: the rules -/
section
variable {X : Cx} {pins : List (Addr × Obj)} {σ : L2.St} {H : Hp} {s : Shared}
abbrev gEnv (X : Cx) (scope : Scope) (C : Addr) (code : Value) : Env := genEnv scope (cloFrom X.env.cells scope.names []) C code builtinsNs X.env
/-- a generator expression has been made, at ga: all that is known of it -/
structure Ready (X : Cx) (pins : List (Addr × Obj)) (σ : L2.St) (elt tg iter : Expr) (ifs : List Expr) (scope : Scope) (gpos : Pos) (N : List Str) (src : List (Option Nat)) (J : It) (G : Hp) (it : Addr) (fp : List Addr) (tn : Nat → Heap → Prop) (code : Value) (s4 t : Shared) (ga : Addr) (g : Nat) : Prop where
  i4 : L2.Inv X pins σ G s4
  fpX : ∀ b ∈ fp, FpOk X pins G b ∧ b < s4.heap.objs.size
  turn : Turn X.prog X.w X.K tg J fp it tn
  tn0 : tn 0 t.heap
  isg : t.heap.IsGen ga g
  gen : t.gens[g]? = some (.fresh (.compStart (.GeneratorExp elt [⟨tg, iter, ifs, 0⟩] scope gpos) 0 (.ref it) .none (gEnv X scope s4.heap.objs.size code)))
  inv : ∀ A : Around, A.handled = none → A.frames = some (gEnv X scope s4.heap.objs.size code :: X.stack) → L2.Inv (gcx X A N s4 G (gEnv X scope s4.heap.objs.size code) fp) [] (gxσ src σ) G t
  new : s4.heap.objs.size < ga
  lt : ga < t.heap.objs.size
theorem gx_make {c P : Addr} {elt tg iter : Expr} {ifs : List Expr} {scope : Scope} {gpos : Pos} {N : List Str} {src : List (Option Nat)} {wi : TI} {k : Nat} {Rr : It → Hp → Prop} {Q' : Value → Shared → Prop} (hr : Room k X.A) (TB : LamX.TabB X.base X.mg c P) (hcode : X.env.code = .ref c)
    (S : GxS X.N X.env.scope scope N src) (hi : PI X tg iter wi) (hs : ∀ v, genFold iter X.env v = pure v) (I : L2.Inv X pins σ H s) (h : wi σ H fun J H1 => TabG H1 P ∧ ∀ H2, Tabd P H1 H2 → Rr J H2)
    (fin : ∀ J G it fp tn code s4 t ga g, Rr J G → Ready X pins σ elt tg iter ifs scope gpos N src J G it fp tn code s4 t ga g → Q' (.ref ga) t) :
    wpAny (model X.prog X.w) X.A (eval (.GeneratorExp elt [⟨tg, iter, ifs, 0⟩] scope gpos) X.env) Q' X.xe s := by
  have hfree : ∀ y ∈ scope.names, y.2 = .free → ∃ c, X.env.cells.lookup y.1 = some c := fun y hy e => by
    rcases S.free y hy e with k | k
    · exact I.ok.has _ (.inl k)
    · exact I.ok.has _ (.inr k)
  refine wpAny_GeneratorExp_make S.co (closure_ok hfree) S.cell S.dot S.kind hr.depth (thn (hi.run pins s σ H _ I h) fun xv s1 hx => thn hx fun itv s2 h2 => ?_) hs
  obtain ⟨it, fp, tn, J, H2, e, I2, T, st2, f2, ⟨ps, hP, htr, hlm⟩, q⟩ := h2
  subst e
  have hPs : s2.heap.get? P = some { cls := .none, data := .fields ps } := I2.hok P _ hP
  have cd : PySem.W.CodeHd s2.heap c P := TB.code.keeps I2.bk
  have sz : ∀ b ∈ fp, b < s2.heap.objs.size := fun b hb => by
    obtain ⟨o, e, _⟩ := T.obj _ _ st2 b hb
    exact Heap.lt_size e
  have nP : ∀ b ∈ fp, b ≠ P := fun b hb z => by
    have := (f2 b hb).1
    rw [z, hP] at this
    cases this
  refine ⟨I2.nolimit, ?_⟩
  -- behind the code object's making: the table is ps ++ more
  have cont : ∀ (code : Value) (h3 : Heap) (tk : Nat) (more : Array Value), Heap.ExtBut P s2.heap h3 → h3.get? P = some { cls := .none, data := .fields (ps ++ more) } → TriplesOk (ps ++ more).toList →
      wpAny (model X.prog X.w) X.A (builtinsFor X.env.globals X.env.builtins) (fun bi s4 =>
        ∀ h', h'.Ns s4.heap.objs.size (fun y => if y = ".0" then some (.ref it) else none) → Heap.SameBut s4.heap.objs.size (s4.heap.push { cls := .type "frame", data := .dict #[] }) h' →
          Q' (.ref h'.objs.size) { s4 with
            gens := s4.gens.push (.fresh (.compStart (.GeneratorExp elt [⟨tg, iter, ifs, 0⟩] scope gpos) 0 (.ref it) .none (genEnv scope (cloFrom X.env.cells scope.names []) s4.heap.objs.size code bi X.env))),
            toks := s4.toks + 1 + 1 + 1,
            heap := h'.push { cls := .type "generator", data := .fields #[.int s4.gens.size 0, .str "<genexpr>" (s4.toks + 1), .str (X.env.qual ++ "<genexpr>") (s4.toks + 1 + 1)] } }) X.xe { s2 with heap := h3, toks := tk } := by
    intro code h3 tk more hx hm htr3
    obtain ⟨bm, ob, e1, e2, e3, e4, e5, e6, e7, e8⟩ := TB.bm
    have J4 : L2.Inv X pins σ (upd H2 P (.tbl (ps ++ more))) { s2 with heap := h3, gens := s2.gens, drawn := s2.drawn, toks := tk } := GxR.inv_tab (more := more) I2 hP (fun b o hb e => hx b o hb e) hm I2.bare
    have f4 : ∀ b ∈ fp, FpOk X pins (upd H2 P (.tbl (ps ++ more))) b ∧ b < h3.objs.size := fun b hb => by
      obtain ⟨o, e, _⟩ := T.obj _ _ st2 b hb
      exact ⟨⟨by rw [upd_ne (nP b hb)]; exact (f2 b hb).1, (f2 b hb).2⟩, Heap.lt_size (hx b o (nP b hb) e)⟩
    have tn3 : tn 0 h3 := T.keep _ _ _ st2 fun b hb o e => hx b o (nP b hb) e
    refine wpAny_builtinsFor (m := X.mg) (by rw [I2.ok.glob]; exact (I2.mod.glob.keeps I2.bk).extBut hx TB.gP) e1 e2 (hx _ _ e4 (I2.bk _ _ e5)) e6 e7 e8 ?_
    intro h' hn' hs'
    have hsz : h'.objs.size = h3.objs.size + 1 := by rw [hs'.1, Heap.size_push]
    have kp : ∀ b o, h3.get? b = some o → h'.get? b = some o := fun b o e => hs'.extBut b o (Nat.ne_of_lt (Heap.lt_size e)) (Heap.get?_push_of_some _ e)
    refine fin J (upd H2 P (.tbl (ps ++ more))) it fp tn code { s2 with heap := h3, toks := tk } _ _ s2.gens.size (q _ ⟨⟨ps ++ more, upd_same, htr3, hlm⟩, fun b hb => upd_ne hb⟩) ⟨J4, f4, T, T.keep _ _ _ tn3 fun b hb o e => Heap.get?_push_of_some _ (kp b o e), ⟨_, _, _, Heap.get?_push_size _ rfl, rfl, rfl, rfl⟩, Array.getElem?_push_size .., fun A hA hF => ?_, by show h3.objs.size < h'.objs.size; omega, by show h'.objs.size < (h'.push _).objs.size; rw [Heap.size_push]; exact Nat.lt_succ_self _⟩
    exact gx_inv (s := { s2 with heap := h3, toks := tk }) S J4 f4 hA hF rfl hn' hs'
  cases hf : codeAmong gpos ps.toList with
  | none =>
    refine wpAny_genexprCodeX hcode (cd.code hPs htr) (cd.tab hPs) hf fun c' h' tk hx hge hlt hco' _ htab' _ => ?_
    obtain ⟨o1, vs, f1, tf, fl, tg', inF, tx, tt, op, _, _, _, _, _, _, _, _, _, htr', _⟩ := hco'
    exact cont _ h' tk _ hx htab'.2 htr'
  | some cv =>
    refine wpAny_genexprCode_hit hcode (cd.code hPs htr) hf ?_
    exact cont cv s2.heap s2.toks #[] (Heap.ExtBut.refl _ _) (by rw [Array.append_empty]; exact hPs) (by rw [Array.append_empty]; exact htr)
theorem over_frames {A : Around} {elt tg iter : Expr} {ifs : List Expr} {scope : Scope} {pos : Pos} {it : Value} {env : Env} {l : List Env} (h : A.frames = some l) :
    (A.over (.compLoop (.GeneratorExp elt [⟨tg, iter, ifs, 0⟩] scope pos) 0 it .none env) []).frames = some (env :: l) := by
  unfold Around.over
  simp only [h]
  rfl
theorem over_room {A : Around} {elt tg iter : Expr} {ifs : List Expr} {scope : Scope} {pos : Pos} {it : Value} {env : Env} {k : Nat} (r : Room (k + 1) A) :
    Room k (A.over (.compLoop (.GeneratorExp elt [⟨tg, iter, ifs, 0⟩] scope pos) 0 it .none env) []) :=
  ⟨r.hd, by have := r.dp; show A.depth + 0 + 1 + 3 * k + 5 < _; omega, by have := r.un; show A.units + 0 + 3 + 16 * k + 200 < _; omega⟩
/-- what the rules ask of a generator expression's parts -/
structure GxP (X : Cx) (k : Nat) (elt tg : Expr) (ifs : List Expr) (scope : Scope) (N : List Str) (g : TG) (tt : TT) (te : TE) : Prop where
  pg : ∀ (A : Around) (s : Shared) (G : Hp) (C : Addr) (code : Value) (fp : List Addr), PG (gcx X A N s G (gEnv X scope C code) fp) tg g
  pt : ∀ (A : Around) (s : Shared) (G : Hp) (C : Addr) (code : Value) (fp : List Addr), Room k A → PTs (gcx X A N s G (gEnv X scope C code) fp) ifs tt
  pe : ∀ (A : Around) (s : Shared) (G : Hp) (C : Addr) (code : Value) (fp : List Addr), Room k A → PE (gcx X A N s G (gEnv X scope C code) fp) elt te
/-- a turn's reading; end_: what is wanted behind the last, yl: at an item -/
def GxT {α : Type} (J : It) (g : TG) (tt : TT) (te : TE) (vs : List Nat) (σ0 : L2.St) (W : Nat → Nat → α → Hp → Prop) (yl : α → V → Hp → (α → Hp → Prop) → Prop) (dn : α → Hp → Prop) : Prop :=
  ∀ i m a H, W i m a H → (J.stop i H ∧ dn a H) ∨ (J.go i H ∧ ∃ Nx : α → Hp → Prop, (∀ a' H', Nx a' H' → ∃ m', m' < m ∧ W (i + 1) m' a' H') ∧
    ∀ x H1, J.yld i H x H1 → g x σ0 H1 fun σ2 H2 => wipe σ2 vs = σ0 ∧ tt σ2 H2 fun b H3 => if b = true then te σ2 H3 fun y H4 => yl a y H4 Nx else Nx a H3)
section
variable {α : Type} {elt tg iter : Expr} {ifs : List Expr} {scope : Scope} {gpos : Pos} {N : List Str} {src : List (Option Nat)} {J : It} {G : Hp} {it : Addr} {fp : List Addr} {tn : Nat → Heap → Prop} {code : Value} {s4 t : Shared} {ga : Addr} {g : Nat} {gg : TG} {tt : TT} {te : TE}
/-- the data of the generator with a consumer -/
abbrev Ready.dat (_ : Ready X pins σ elt tg iter ifs scope gpos N src J G it fp tn code s4 t ga g) (A : Around) (prot : List Addr) (Acc : α → Heap → Prop) (W : Nat → Nat → α → Hp → Prop) (Yl : α → V → Hp → (α → Hp → Prop) → Prop) (Dn : α → Hp → Prop) (vs : List Nat) : GxD α :=
  ⟨gcx X (A.in1.over (.compLoop (.GeneratorExp elt [⟨tg, iter, ifs, 0⟩] scope gpos) 0 (.ref it) .none (gEnv X scope s4.heap.objs.size code)) []) N s4 G (gEnv X scope s4.heap.objs.size code) fp, elt, tg, iter, ifs, scope, gpos, it, fp, tn, J, prot, Acc, W, Yl, Dn, wipe (gxσ src σ) vs, vs⟩
theorem Ready.live (R : Ready X pins σ elt tg iter ifs scope gpos N src J G it fp tn code s4 t ga g) {k : Nat} {A : Around} {C : List (Addr × Obj)} {Acc : α → Heap → Prop} {W : Nat → Nat → α → Hp → Prop} {Yl : α → V → Hp → (α → Hp → Prop) → Prop} {Dn : α → Hp → Prop} {vs : List Nat} {a : α} {m : Nat} {h' : Heap} {tk : Nat}
    (S : GxS X.N X.env.scope scope N src) (hp : GxP X k elt tg ifs scope N gg tt te) (room : Room (k + 1) A.in1) (hA : A.in1.frames = some X.stack) (ht : GxT J gg tt te vs (wipe (gxσ src σ) vs) W Yl Dn)
    (hk : ∀ b o, t.heap.get? b = some o → h'.get? b = some o) (hC : ∀ p ∈ C, h'.get? p.1 = some p.2 ∧ t.heap.objs.size ≤ p.1 ∧ ∀ v, p.2.data ≠ .cell v) (hacc : Acc a h') (hw : W 0 m a G) :
    (R.dat A (ga :: C.map (·.1)) Acc W Yl Dn vs).Ok gg tt te ∧ (R.dat A (ga :: C.map (·.1)) Acc W Yl Dn vs).Live A ga g (m + 1) a { t with heap := h', toks := tk } := by
  have hZ := R.inv (A.in1.over (.compLoop (.GeneratorExp elt [⟨tg, iter, ifs, 0⟩] scope gpos) 0 (.ref it) .none (gEnv X scope s4.heap.objs.size code)) []) room.hd (over_frames hA)
  have hZ2 : L2.Inv (gcx X (A.in1.over (.compLoop (.GeneratorExp elt [⟨tg, iter, ifs, 0⟩] scope gpos) 0 (.ref it) .none (gEnv X scope s4.heap.objs.size code)) []) N s4 G (gEnv X scope s4.heap.objs.size code) fp) [] (wipe (gxσ src σ) vs) G { t with heap := h', toks := tk } :=
    (hZ.weak (wipe_length _ _) fun j v e => (wipe_some e).1).kept (t' := tk) hk
  obtain ⟨og, nm, qn, hog, hcls, hdat, hsl⟩ := id R.isg
  have young : ∀ b, s4.heap.objs.size < b → G b = none ∧ b ≠ s4.heap.objs.size ∧ b ∉ frs X.stack := fun b hb => ⟨R.i4.hok.fresh (Nat.le_of_lt hb), Nat.ne_of_gt hb, fun z => by
    rcases List.mem_cons.mp (R.i4.stkSub b z) with z | z
    · rw [z] at hb
      exact absurd (Nat.lt_trans R.i4.lt hb) (Nat.lt_irrefl _)
    · exact R.i4.nofs (Nat.le_of_lt hb) z⟩
  have cY : ∀ p ∈ C, s4.heap.objs.size < p.1 := fun p hp' => Nat.lt_of_lt_of_le (Nat.lt_trans R.new R.lt) (hC p hp').2.1
  have ok : (R.dat A (ga :: C.map (·.1)) Acc W Yl Dn vs).Ok gg tt te := ⟨rfl, rfl, S.co, R.turn, hp.pg .., hp.pt _ _ _ _ _ _ (over_room room), hp.pe _ _ _ _ _ _ (over_room room), ht⟩
  have GI : (R.dat A (ga :: C.map (·.1)) Acc W Yl Dn vs).Inv ((ga, og) :: C) G { t with heap := h', toks := tk } := by
    refine ⟨rfl, hZ2.pins_of fun p hp' => ?_, fun b hb => ?_⟩
    · rcases List.mem_cons.mp hp' with rfl | hp'
      · obtain ⟨y1, y2, y3⟩ := young ga R.new
        exact ⟨hk _ _ hog, y1, y2, y3, fun v z => by rw [hdat] at z; cases z⟩
      · obtain ⟨y1, y2, y3⟩ := young p.1 (cY p hp')
        exact ⟨(hC p hp').1, y1, y2, y3, (hC p hp').2.2⟩
    · refine ⟨(R.fpX b hb).1.1, Nat.ne_of_lt (R.fpX b hb).2, hZ.ok.exfs b hb, .inl hb, (hZ.ok.exf b hb).2, fun p hp' z => ?_⟩
      have hb2 := (R.fpX b hb).2
      rcases List.mem_cons.mp (show p ∈ (ga, og) :: C from hp') with e | hp'
      · rw [← z, e] at hb2
        exact absurd (Nat.lt_trans R.new hb2) (Nat.lt_irrefl _)
      · rw [← z] at hb2
        exact absurd (Nat.lt_trans (cY p hp') hb2) (Nat.lt_irrefl _)
  refine ⟨ok, List.mem_cons_self, ⟨og, nm, qn, hk _ _ hog, hcls, hdat, hsl⟩, hacc, ⟨_, _, GI⟩, _, R.gen, rfl, ?_⟩
  exact gx_begin ok (A := A.in1) rfl (Nat.lt_succ_self m) (GI.setGen rfl) (R.turn.keep _ _ _ R.tn0 fun b _ o e => hk b o e) hacc hw
/-- back in the def -/
theorem Ready.back (R : Ready X pins σ elt tg iter ifs scope gpos N src J G it fp tn code s4 t ga g) {A : Around} {prot : List Addr} {Acc : α → Heap → Prop} {W : Nat → Nat → α → Hp → Prop} {Yl : α → V → Hp → (α → Hp → Prop) → Prop} {Dn : α → Hp → Prop} {vs : List Nat} {pn : List (Addr × Obj)} {H' : Hp} {s' : Shared}
    (GI : (R.dat A prot Acc W Yl Dn vs).Inv pn H' s') : L2.Inv X pins σ H' s' :=
  R.i4.call' (ch := fp) GI.2.1.os GI.2.1.base GI.2.1.hok GI.2.1.bare fun b hb => ⟨(R.fpX b hb).1.2.2.2.1, (R.fpX b hb).1.2.1, (R.fpX b hb).1.2.2.2.2.1, (R.fpX b hb).1.2.2.2.2.2⟩
end
/-- all(elt for ..), any(elt for ..), sum(elt for ..) -/
def tAllG (P : Addr) (stop : Bool) (wi : TI) (g : TG) (tt : TT) (te : TE) (src : List (Option Nat)) (vs : List Nat) : TE := fun σ H Q => wi σ H fun J H1 => TabG H1 P ∧ ∀ H2, Tabd P H1 H2 →
  ∃ W : Nat → Nat → Hp → Prop, (∃ m, W 0 m H2) ∧ GxT (α := Unit) J g tt te vs (wipe (gxσ src σ) vs) (fun i m _ H => W i m H) (ylAll stop fun H' => Q (.bl stop) H') (fun _ H' => Q (.bl !stop) H')
section
variable {c P : Addr} {elt tg iter : Expr} {ifs : List Expr} {scope : Scope} {gpos p pos : Pos} {N : List Str} {src : List (Option Nat)} {wi : TI} {g : TG} {tt : TT} {te : TE} {k : Nat} {vs : List Nat}
theorem pe_any (hr : Room (k + 3) X.A) (hg : Gl X "any") (hm : X.mg "any" = none) (TB : LamX.TabB X.base X.mg c P) (hcode : X.env.code = .ref c) (S : GxS X.N X.env.scope scope N src) (hi : PI X tg iter wi) (hp : GxP X k elt tg ifs scope N g tt te)
    (hs : ∀ v, genFold iter X.env v = pure v := by intro _; rfl)
    (he : starEach [.GeneratorExp elt [⟨tg, iter, ifs, 0⟩] scope gpos] X.env = (false, eval (.GeneratorExp elt [⟨tg, iter, ifs, 0⟩] scope gpos) X.env) :: starEach [] X.env := by rfl) :
    PE X (.Call (.Name "any" p) [.GeneratorExp elt [⟨tg, iter, ifs, 0⟩] scope gpos] [] pos) (tAllG P true wi g tt te src vs) := by
  refine ⟨fun pins s σ H Q I h => ?_⟩
  refine wpAny_Call_Name_kw (ld_blt I hg hm boot_any (PyProof.Rows.callWith_builtin1 ?_ he (by rfl)))
  rw [he]
  show wpAny _ _ (spliced ((false, eval (.GeneratorExp elt [⟨tg, iter, ifs, 0⟩] scope gpos) X.env) :: backTo pos (starEach [] X.env))) _ _ s
  refine Calls.spliced_cons (gx_make hr TB hcode S hi hs I h fun J G it fp tn code s4 t ga gn q R => Calls.spliced_nil ?_)
  obtain ⟨W, ⟨m, w0⟩, ht⟩ := q
  have r1 : Room (k + 2) X.A.in1 := hr.in1
  have r2 : Room (k + 1) X.A.in1.in1 := r1.in1
  obtain ⟨ok, L⟩ := R.live (A := X.A.in1) (C := []) (Acc := fun _ _ => True) (a := ()) (m := m) (h' := t.heap) (tk := t.toks) S hp r2 I.ok.frames ht (fun _ _ e => e) (fun _ z => nomatch z) trivial w0
  refine call_function_tree F.kind_any F.plain_any F.entry_any (F.args_any1 _) ?_
  unfold Builtin.«any»
  refine wpAny_bind (m := oneArg "any" _) (wpAny_pure ?_)
  refine wpAny_bind (wpAny_pyIter_gen R.isg ?_)
  refine wpAny_pure ⟨plainId_quiet F.plain_any_loop _, any_loop (A := X.A) hr.hd hr.depth rfl rfl (fun pn H' t' GI dn => ?_) (fun pn H' t' GI q => ?_) (m + 1) t L⟩
  · exact ⟨.bl false, H', R.back GI, rfl, dn⟩
  · exact ⟨.bl true, H', R.back GI, rfl, q⟩
end
end
/-- by a look at the names -/
def gxsB (XN : List Str) (xsc scope : Scope) (N : List Str) (src : List (Option Nat)) : Bool :=
  decide (scope.kind = .function) && (!scope.isCoroutine && ((scope.names.all fun y => decide (y.2 ≠ .cell)) && (decide (scope.names.lookup (".0" : Str) = some NameKind.local) &&
  ((scope.names.all fun y => decide (y.2 ≠ .free) || decide (xsc.names.lookup y.1 = some .cell) || decide (xsc.names.lookup y.1 = some .free)) && (decide (src.length = N.length) && (decide N.Nodup &&
  (List.range src.length).all fun i => match src[i]? with
    | some (some j) => (match N[i]? with
      | some x => decide (XN[j]? = some x) && decide (scope.names.lookup x = some .free)
      | none => false)
    | _ => true))))))
theorem gxs_of {XN : List Str} {xsc scope : Scope} {N : List Str} {src : List (Option Nat)} (h : gxsB XN xsc scope N src = true) : GxS XN xsc scope N src := by
  unfold gxsB at h
  simp only [Bool.and_eq_true, decide_eq_true_eq, Bool.not_eq_true', List.all_eq_true, Bool.or_eq_true] at h
  obtain ⟨h1, h2, h3, h4, h5, h6, h7, h8⟩ := h
  refine ⟨h1, h2, h3, h4, fun y hy e => ?_, h6, h7, fun i j e => ?_⟩
  · rcases h5 y hy with (z | z) | z
    · exact absurd e z
    · exact .inl z
    · exact .inr z
  · have hi : i < src.length := (List.getElem?_eq_some_iff.mp e).1
    have q := h8 i (List.mem_range.mpr hi)
    rw [e] at q
    cases hn : N[i]? with
    | none => rw [hn] at q; cases q
    | some x =>
      rw [hn] at q
      obtain ⟨q1, q2⟩ := Bool.and_eq_true_iff.mp q
      exact ⟨x, rfl, of_decide_eq_true q1, of_decide_eq_true q2⟩
end FF
namespace FF
open PySem PySem.Spec PyProof.Rows L2
variable [LT]
/-! ### tuple(elt for ..) -/
section
variable {α : Type}
theorem gx_nextA {D : GxD α} {A : Around} {ga : Addr} {g n : Nat} {a : α} {s : Shared} {Q : Option Value → Shared → Prop} {E : Value → Shared → Prop} (calm : A.handled = none) (room : A.depth < recursionLimit)
    (hfun : ∀ a a' h, D.Acc a h → D.Acc a' h → a = a') (hpr : ∀ a h h', (∀ b ∈ D.prot, h'.get? b = h.get? b) → D.Acc a h → D.Acc a h') (L : D.Live A ga g n a s)
    (some_ : ∀ v x H Nx t, RelV x v → D.Told A ga g n a x H Nx t → Q (some v) t)
    (none_ : ∀ pins H t, D.Inv pins H t → D.Acc a t.heap → D.Dn a H → Q none t) :
    wpAny (model D.Z.prog D.Z.w) A (pyNext (.ref ga)) Q E s := by
  obtain ⟨pins0, H0, G0⟩ := L.inv
  obtain ⟨gs, hgs, hgo⟩ := L.go
  refine wpAny_pyNext_genexpQ (P := D.P) (Y := D.Y) (n := n) calm G0.2.1.nolimit room L.isg hgs hgo (fun v t gs' hb hv => ?_) (fun t hp h' hk => ?_)
  · obtain ⟨i, a1, pins, H, x, Nx, rx, hz, hacc, h0, G, htn, hyl, kap⟩ := hv
    have ea : a1 = a := hfun _ _ _ hacc L.acc
    subst ea
    have same : ∀ b ∈ D.prot, t.heap.get? b = s.heap.get? b := fun b hb' => pins_same G h0 hb'
    have isg : t.heap.IsGen ga g := by
      obtain ⟨o, nm, qn, ho, r⟩ := L.isg
      exact ⟨o, nm, qn, (same ga L.mem).trans ho, r⟩
    refine some_ v x H Nx _ rx ⟨⟨pins, G.setGen hb⟩, hpr _ _ _ same hacc, hyl, isg, i, htn, fun s' pins' H' a' hge isg' G' htn' hacc' nx => ?_⟩
    have kp := kap (s'.setGen g .running) pins' H' a' (G'.setGen rfl) htn' hacc' nx
    cases n with
    | zero => exact kp.elim
    | succ n' =>
    refine ⟨n', rfl, L.mem, isg', hacc', ⟨_, _, G'⟩, gs', ?_, kp⟩
    rw [hge]
    · have hlt : g < t.gens.size := by
        have h1 : g < s.gens.size := (Array.getElem?_eq_some_iff.mp hgs).1
        have h2 : (s.setGen g .running).gens.size = s.gens.size := by simp [Shared.setGen]
        omega
      simp [Shared.setGen, hlt]
  · obtain ⟨a1, pins, H, hacc, h0, G, hdn⟩ := hp
    have ea : a1 = a := hfun _ _ _ hacc L.acc
    subst ea
    refine none_ pins H _ ⟨G.1, Inv.gens (G := (t.setGen g .finished).gens) (G.2.1.kept (t' := t.toks) hk) (bare_set G.2.1.bare rfl), G.2.2⟩ (hpr _ _ _ (fun b hb => ?_) hacc) hdn
    have hb2 := hb
    rw [← G.1] at hb2
    obtain ⟨p, hp, e⟩ := List.mem_map.mp hb2
    have h1 := h0 p hp
    have h2 := (G.2.1.pin p (List.mem_append_right _ hp)).1
    rw [← e]
    exact (hk _ _ h2).trans h1.symm
def accLst (S : Addr) : List V → Heap → Prop := fun xs h => ∃ (its : List Value) (c : Nat), Vals xs its ∧ h.get? S = some { cls := .type "list", dict := none, data := .seq its.toArray c, slots := #[] }
def ylLst : List V → V → Hp → (List V → Hp → Prop) → Prop := fun xs x H Nx => xs.length < sizeLine ∧ Nx (xs ++ [x]) H
theorem lst_loop {D : GxD (List V)} {A : Around} {ga S : Addr} {g : Nat} {res : Value} {R : Result → Shared → Prop} (calm : A.handled = none) (room : A.depth < recursionLimit) (hT : ∀ i h h', D.tn i h → (∀ b ∈ D.fp, ∀ o, h.get? b = some o → h'.get? b = some o) → D.tn i h')
    (ow : D.Own ga S) (hyl : D.Yl = ylLst) (hac : D.Acc = accLst S) (fin : ∀ pins H t xs, D.Inv pins H t → accLst S xs t.heap → D.Dn xs H → R (.ok (.ret res)) t) :
    ∀ n s xs, D.Live A.in1 ga g n xs s → codeAny (model D.Z.prog D.Z.w) A (.builtin "list.extend.loop" ⟨[.ref S, .ref ga, res], []⟩) R s := by
  have hS : S ∈ D.prot := by rw [ow.prot]; simp
  have hfun : ∀ a a' h, D.Acc a h → D.Acc a' h → a = a' := by
    intro a a' h h1 h2
    rw [hac] at h1 h2
    obtain ⟨t, c, v, e⟩ := h1
    obtain ⟨t', c', v', e'⟩ := h2
    rw [e] at e'
    injection e' with e1
    injection e1 with _ _ e2
    injection e2 with e3
    have e4 : t = t' := by simpa using e3
    subst e4
    exact v.inj v'
  have hpr : ∀ a h h', (∀ b ∈ D.prot, h'.get? b = h.get? b) → D.Acc a h → D.Acc a h' := by
    intro a h h' e h1
    rw [hac] at h1 ⊢
    obtain ⟨t, c, v, q⟩ := h1
    exact ⟨t, c, v, (e S hS).trans q⟩
  intro n
  induction n using Nat.strongRecOn with
  | _ n ih =>
    intro s xs L
    refine codeAny_builtin F.entry_extend_loop ?_
    rw [Around.under_plainId F.plain_extend_loop _]
    show wpAny _ A.in1 (pyNext (.ref ga) >>= _) _ _ s
    refine wpAny_bind (gx_nextA (A := A.in1) calm room hfun hpr L (fun v x H Nx t rx T => ?_) (fun pins H t G acc dn => ?_))
    · have yl := T.yl
      rw [hyl] at yl
      obtain ⟨hl, q⟩ := yl
      have a1 := T.acc
      rw [hac] at a1
      obtain ⟨its, c1, v1, e1⟩ := a1
      have hsz : its.toArray.size = xs.length := by rw [List.size_toArray]; exact v1.length.symm
      show wpAny _ A.in1 (updateSeq S (·.push v) >>= _) _ _ _
      refine wpAny_bind (wpAny_updateSeq e1 rfl ?_ (by rw [hsz]; omega) (by rw [Array.size_push, hsz]; omega))
      have e2 := Heap.get?_update_self (Obj.mapSeq (·.push v)) e1 rfl
      have acc2 : accLst S (xs ++ [x]) (t.heap.update S (Obj.mapSeq (·.push v))) := ⟨its ++ [v], _, v1.append (.cons rx .nil), by
        rw [e2]
        simp [Obj.mapSeq]
        rfl⟩
      obtain ⟨n', rfl, L'⟩ := T.write (a' := xs ++ [x]) hT ow t.toks (fun b u hb e => (Heap.get?_update_other _ _ (Ne.symm hb)).trans e) e2 (fun v z => by cases z) q (by rw [hac]; exact acc2)
      exact wpAny_pure ⟨plainId_quiet F.plain_extend_loop _, ih n' (Nat.lt_succ_self _) _ _ L'⟩
    · rw [hac] at acc
      exact wpAny_pure (fin pins H t xs G acc dn)
end
section
variable {X : Cx} {pins : List (Addr × Obj)} {σ : L2.St} {elt tg iter : Expr} {ifs : List Expr} {scope : Scope} {gpos : Pos} {N : List Str} {src : List (Option Nat)} {J : It} {G : Hp} {it : Addr} {fp : List Addr} {tn : Nat → Heap → Prop} {code : Value} {s4 t : Shared} {ga : Addr} {g : Nat} {gg : TG} {tt : TT} {te : TE}
theorem collect_gx (R : Ready X pins σ elt tg iter ifs scope gpos N src J G it fp tn code s4 t ga g) {k : Nat} {A : Around} {W : Nat → Nat → List V → Hp → Prop} {Dn : List V → Hp → Prop} {vs : List Nat} {m : Nat} {Q : List Value → Shared → Prop} {E : Value → Shared → Prop}
    (S : GxS X.N X.env.scope scope N src) (hp : GxP X k elt tg ifs scope N gg tt te) (calm : A.handled = none) (dep : A.depth < recursionLimit) (room : Room (k + 1) A.in1.in1) (hA : A.in1.in1.frames = some X.stack) (hd : X.A.handled = none) (fr : X.A.frames = some X.stack)
    (ht : GxT J gg tt te vs (wipe (gxσ src σ) vs) W ylLst Dn) (w0 : W 0 m [] G)
    (fin : ∀ H' t' its xs, L2.Inv X pins σ H' t' → Vals xs its → Dn xs H' → Q its t') : wpAny (model X.prog X.w) A (collect (.ref ga)) Q E t := by
  have hgen : t.TypeIs (.ref ga) "generator" := by
    obtain ⟨o, nm, qn, ho, hc, _⟩ := R.isg
    exact ⟨o, ho, hc⟩
  have hlt : ga < t.heap.objs.size := R.lt
  have hSI : t.heap.objs.size ≠ ga := Nat.ne_of_gt hlt
  unfold collect
  refine wpAny_bind (wpAny_runValue (codeAny_builtin F.entry_proto_collect ?_))
  rw [Around.under_plainId F.plain_proto_collect _]
  show wpAny _ A.in1 (newList [] >>= fun l => again (.builtin "list.__iadd__" ⟨[l, .ref ga], []⟩)) _ _ t
  refine wpAny_bind (wpAny_newObj_type ?_)
  refine wpAny_pure ⟨plainId_quiet F.plain_list_iadd _, codeAny_builtin F.entry_list_iadd ?_⟩
  rw [Around.under_plainId F.plain_list_iadd _]
  have hgen1 : ({ t with heap := t.heap.push { cls := .type "list", data := .seq ([] : List Value).toArray } } : Shared).TypeIs (.ref ga) "generator" := by
    obtain ⟨o, ho, hc⟩ := hgen
    exact ⟨o, Heap.get?_push_of_some _ ho, hc⟩
  have isg1 : (t.heap.push { cls := .type "list", data := .seq ([] : List Value).toArray }).IsGen ga g := by
    obtain ⟨o, nm, qn, ho, r⟩ := R.isg
    exact ⟨o, nm, qn, Heap.get?_push_of_some _ ho, r⟩
  show wpAny _ A.in1 (Builtin.List.listExtendWith (.ref t.heap.objs.size) (.ref ga) (.ref t.heap.objs.size)) _ _ _
  unfold Builtin.List.listExtendWith
  refine wpAny_bind (wpAny_typeOf hgen1 ?_)
  have h1 : Builtin.List.listSameRef (.ref t.heap.objs.size) (.ref ga) = false := by simp [Builtin.List.listSameRef, hSI]
  have h2 : (Value.type "generator" == Value.type "list") = false := by decide
  have h3 : (Value.type "generator" == Value.type "tuple") = false := by decide
  simp only [h1, h2, h3, Bool.or_false, Bool.false_eq_true, if_false]
  refine wpAny_bind (wpAny_pyIter_gen isg1 ?_)
  refine wpAny_bind (wpAny_holding ?_)
  unfold Builtin.List.listLengthHint
  refine wpAny_bind (wpAny_specialOf hgen1 F.gen_no_len ?_)
  show wpAny _ A.in1 (specialOf (Value.ref ga) (Str.ofString "__length_hint__") >>= _) _ _ _
  refine wpAny_bind (wpAny_specialOf hgen1 F.gen_no_hint ?_)
  refine wpAny_pure ?_
  show wpAny _ A.in1 (rule "list.extend.makes-room" >>= fun _ => Builtin.List.listTouch (.ref t.heap.objs.size) >>= fun _ =>
    again (.builtin "list.extend.loop" ⟨[.ref t.heap.objs.size, .ref ga, .ref t.heap.objs.size], []⟩)) _ _ _
  refine wpAny_bind (wpAny_rule ?_)
  have hS₁ : (t.heap.push { cls := .type "list", data := .seq ([] : List Value).toArray }).get? t.heap.objs.size = some { cls := .type "list", data := .seq ([] : List Value).toArray } := Heap.get?_push_size _ rfl
  refine wpAny_bind ?_
  show wpAny _ A.in1 (updateSeq t.heap.objs.size (·.push .none) >>= fun _ => updateSeq t.heap.objs.size (·.pop)) _ _ _
  refine wpAny_bind (wpAny_updateSeq hS₁ rfl ?_)
  have hS₂ := Heap.get?_update_self (Obj.mapSeq (·.push Value.none)) hS₁ rfl
  refine wpAny_updateSeq hS₂ rfl ?_
  have hS₃ := Heap.get?_update_self (Obj.mapSeq (·.pop)) hS₂ rfl
  have oth : ∀ b o, t.heap.get? b = some o →
      (((t.heap.push { cls := .type "list", data := .seq ([] : List Value).toArray }).update t.heap.objs.size (Obj.mapSeq (·.push Value.none))).update t.heap.objs.size (Obj.mapSeq (·.pop))).get? b = some o :=
    fun b o e => (Heap.get?_update_other _ _ (Nat.ne_of_gt (Heap.lt_size e))).trans ((Heap.get?_update_other _ _ (Nat.ne_of_gt (Heap.lt_size e))).trans (Heap.get?_push_of_some _ e))
  obtain ⟨ok, L⟩ := R.live (A := A.in1) (C := [(t.heap.objs.size, _)]) (Acc := accLst t.heap.objs.size) (a := []) (m := m) (h' := _) (tk := t.toks) S hp room hA ht oth
    (fun q hq => by rw [List.mem_singleton.mp hq]; exact ⟨hS₃, Nat.le_refl _, fun v z => by cases z⟩) ⟨[], _, .nil, hS₃⟩ w0
  have big : s4.heap.objs.size < t.heap.objs.size := Nat.lt_trans R.new R.lt
  refine wpAny_pure ⟨plainId_quiet F.plain_extend_loop _, lst_loop (A := A) calm dep ok.turn.keep ⟨rfl, Nat.ne_of_gt R.lt, Nat.le_of_lt big, Nat.ne_of_gt big, fun x c0 e z => ?_, rfl⟩ rfl rfl (fun pn H' t' xs GI acc dn => ?_) (m + 1) _ [] L⟩
  · have hZ := R.inv (A.in1.in1.over (.compLoop (.GeneratorExp elt [⟨tg, iter, ifs, 0⟩] scope gpos) 0 (.ref it) .none (gEnv X scope s4.heap.objs.size code)) []) room.hd (over_frames hA)
    obtain ⟨v, zc⟩ := hZ.cell x c0 e
    exact absurd zc.lt (by rw [z]; exact Nat.lt_irrefl _)
  · obtain ⟨its, c, vv, hS'⟩ := acc
    show wpAny _ A (load t.heap.objs.size >>= _) _ _ t'
    refine wpAny_bind (wpAny_load hS' ?_)
    refine wpAny_pure ?_
    have := fin H' t' its xs (R.back GI) vv dn
    simpa using this
end
def tTupG (P : Addr) (wi : TI) (g : TG) (tt : TT) (te : TE) (src : List (Option Nat)) (vs : List Nat) : TE := fun σ H Q => wi σ H fun J H1 => TabG H1 P ∧ ∀ H2, Tabd P H1 H2 →
  ∃ W : Nat → Nat → List V → Hp → Prop, (∃ m, W 0 m [] H2) ∧ GxT (α := List V) J g tt te vs (wipe (gxσ src σ) vs) W ylLst (fun xs H' => xs.length ≤ sizeLine ∧ ∀ q, H' q = none → Q (.ref q) (upd H' q (.tup xs)))
section
variable {X : Cx} {c P : Addr} {elt tg iter : Expr} {ifs : List Expr} {scope : Scope} {gpos p pos : Pos} {N : List Str} {src : List (Option Nat)} {wi : TI} {g : TG} {tt : TT} {te : TE} {k : Nat} {vs : List Nat}
theorem pe_tuple (hr : Room (k + 6) X.A) (hg : Gl X "tuple") (hm : X.mg "tuple" = none) (TB : LamX.TabB X.base X.mg c P) (hcode : X.env.code = .ref c) (S : GxS X.N X.env.scope scope N src) (hi : PI X tg iter wi) (hp : GxP X k elt tg ifs scope N g tt te)
    (hs : ∀ v, genFold iter X.env v = pure v := by intro _; rfl)
    (he : starEach [.GeneratorExp elt [⟨tg, iter, ifs, 0⟩] scope gpos] X.env = (false, eval (.GeneratorExp elt [⟨tg, iter, ifs, 0⟩] scope gpos) X.env) :: starEach [] X.env := by rfl) :
    PE X (.Call (.Name "tuple" p) [.GeneratorExp elt [⟨tg, iter, ifs, 0⟩] scope gpos] [] pos) (tTupG P wi g tt te src vs) := by
  refine ⟨fun pins s σ H Q I h => ?_⟩
  refine wpAny_Call_Name_kw (ld_blt I hg hm boot_tuple (PyProof.Rows.callWith_type1 ?_ he (by rfl)))
  rw [he]
  show wpAny _ _ (spliced ((false, eval (.GeneratorExp elt [⟨tg, iter, ifs, 0⟩] scope gpos) X.env) :: backTo pos (starEach [] X.env))) _ _ s
  refine Calls.spliced_cons (gx_make hr TB hcode S hi hs I h fun J G it fp tn code s4 t ga gn q R => Calls.spliced_nil ?_)
  obtain ⟨W, ⟨m, w0⟩, ht⟩ := q
  have r1 : Room (k + 5) X.A.in1 := hr.in1
  have r2 : Room (k + 4) X.A.in1.in1 := r1.in1
  have r3 : Room (k + 3) X.A.in1.in1.in1 := r2.in1
  have r4 : Room (k + 2) X.A.in1.in1.in1.in1 := r3.in1
  have hgen : t.TypeIs (.ref ga) "generator" := by
    obtain ⟨o, nm, qn, ho, hc, _⟩ := R.isg
    exact ⟨o, ho, hc⟩
  refine callType_codes (Q₁ := fun obj s₁ => s₁.TypeIs obj "tuple" ∧ EP X pins σ Q obj s₁) F.called_tuple (F.typeCall_tuple_1 _) F.entry_object_init ?_ fun obj s₁ h₁ => ⟨h₁.1, F.args_object_init_2 obj _, object_init_meets F.called_tuple.init.lookup F.called_tuple.made (by decide) X.prog X.w X.A.in1 _ s₁ ⟨h₁.1, rfl, h₁.2⟩⟩
  refine codeAny_of_tree ?_
  show wpAny _ X.A.in1.in1 (do checkBuiltinCall "tuple.__new__" ⟨[.type "tuple", .ref ga], []⟩; again (.builtin "tuple.__new__" ⟨[.type "tuple", .ref ga], []⟩)) _ _ t
  refine wpAny_bind (wpAny_of_eq (F.newCall_tuple_1 _) (wpAny_pure ⟨plainId_quiet F.plain_tuple_new _, codeAny_builtin F.entry_tuple_new ?_⟩))
  rw [Around.under_plainId F.plain_tuple_new _]
  have hsub := sub_tuple_self
  have hinit := init_tuple_lookup
  have hmh := madeHere_tuple
  wp_walk using wpAny_typeOf hgen, collect_gx (A := X.A.in1.in1) R (k := k) (m := m) S hp r2.hd r2.depth (r4.mono (by omega)) I.ok.frames hr.hd I.ok.frames ht w0
  intro H' t' its xs I' vv dn
  obtain ⟨hz, q⟩ := dn
  show wpAny _ _ (Builtin.Tuple.tupleExact its.toArray >>= fun v => ret v) _ _ _
  unfold Builtin.Tuple.tupleExact
  refine wpAny_bind (wpAny_newObj_type ?_ (by show its.toArray.size ≤ sizeLine; rw [List.size_toArray, ← vv.length]; exact hz))
  refine wpAny_pure ?_
  refine ⟨⟨_, Heap.get?_push_size _ rfl, rfl⟩, .ref t'.heap.objs.size, _, I'.laid (t' := t'.toks) (o := .tup xs) (fun b ob q => Heap.get?_push_of_some _ q) (Nat.le_refl _) ?_, rfl, q _ (I'.hok.fresh (Nat.le_refl _))⟩
  exact ⟨hz, its, vv, IsTup.new _ _⟩
end
end FF
namespace FF
open PySem PySem.Spec PyProof.Rows L2
variable [LT]
/-! ### defs of the text -/
structure DefAt (K : PySem.W.Frag) (mg : Str → Option Value) (x : Str) (st : Stmt) (ps : List Str) (f : Addr) (fd : FuncData) : Prop where
  F : FunD K x x (defArgs st) (defBody st) (defScope st) [] [] f fd
  g : mg x = some (.ref f)
  b : Binds K fd ps []
theorem DefAt.ok {P : Program} {w : World} {K : PySem.W.Frag} {mg : Str → Option Value} {base : Heap} {x : Str} {st : Stmt} {f : Addr} {fd : FuncData} {N ps : List Str} {k : Nat} {sp : Sp} (D : DefAt K mg x st ps f fd) (S : FnScope N ps (defScope st)) (len : ∀ vs H Q E, sp vs H Q E → vs.length = ps.length)
    (hbody : ∀ (A : Around) (outer : List Env) (s : Shared) (H : Hp) (vs : List V) (Q : VK) (E : XK), Room k (A.deeper (envOfC x (defScope st) s.heap.objs.size f fd.code)) → sp vs H Q E →
      ∃ t, PSs (cxOf CX0 P w K mg base N x (defScope st) f fd.code A outer s H E).nox (defBody st) t ∧ t { nx := fun _ H' => Q .non H', rt := Q } (start N vs) H) : FnOk P w K mg base CX0 (k + 1) f fd ps sp := by
  obtain ⟨oc, od, dV, kV, doc, pm, an, cdv, ct, osl, rfl, lk, hcd, _, _⟩ := D.F.ex
  refine fn_of lk hcd S len fun A outer s H vs Q E hr hsp => ?_
  obtain ⟨t, h, q⟩ := hbody A outer s H vs Q E hr hsp
  exact ⟨t, h.nox, q⟩
/-! ### heaps: what stays -/
/-- but for the addresses in S all that is tracked stays; tables stay tables -/
structure Kx (S : Addr → Prop) (H H' : Hp) : Prop where
  at_ : ∀ b o, H b = some o → (∀ ps, o ≠ .tbl ps) → ¬ S b → H' b = some o
  tab : ∀ b, TabG H b → TabG H' b
  dom : ∀ b, H' b = none → H b = none
  lam : ∀ b ps, LT.lam b = true → ¬ S b → H b = some (.tbl ps) → H' b = some (.tbl ps)
theorem upd_none {H : Hp} {p b : Addr} {o : HO} (h : upd H p o b = none) : b ≠ p ∧ H b = none := by
  by_cases e : b = p
  · rw [e, upd_same] at h
    cases h
  · rw [upd_ne e] at h
    exact ⟨e, h⟩
abbrev Ke := Kx fun _ => False
theorem Kx.refl {S : Addr → Prop} {H : Hp} : Kx S H H := ⟨fun _ _ h _ _ => h, fun _ h => h, fun _ h => h, fun _ _ _ _ h => h⟩
theorem Kx.trans {S : Addr → Prop} {H H1 H2 : Hp} (a : Kx S H H1) (b : Kx S H1 H2) : Kx S H H2 := ⟨fun c o h n q => b.at_ c o (a.at_ c o h n q) n q, fun c h => b.tab c (a.tab c h), fun c h => a.dom c (b.dom c h), fun c ps l n h => b.lam c ps l n (a.lam c ps l n h)⟩
theorem Kx.mono {S S' : Addr → Prop} {H H1 : Hp} (a : Kx S H H1) (h : ∀ b, S b → S' b) : Kx S' H H1 := ⟨fun c o e n q => a.at_ c o e n fun z => q (h c z), a.tab, a.dom, fun c ps l n e => a.lam c ps l (fun z => n (h c z)) e⟩
theorem Ke.to {S : Addr → Prop} {H H1 : Hp} (a : Ke H H1) : Kx S H H1 := a.mono fun _ z => z.elim
theorem Ke.new {S : Addr → Prop} {H : Hp} {p : Addr} {o : HO} (h : H p = none) : Kx S H (upd H p o) :=
  ⟨fun b u e _ _ => by rw [upd_ne (ne_of_none e h)]; exact e, fun b ⟨ps, e, t⟩ => ⟨ps, by rw [upd_ne (ne_of_none e h)]; exact e, t⟩, fun _ e => (upd_none e).2, fun b ps _ _ e => by rw [upd_ne (ne_of_none e h)]; exact e⟩
theorem Kx.over {S : Addr → Prop} {H H1 : Hp} {p : Addr} {o : HO} (k : Kx S H H1) (h : H p = none) : Kx S H (upd H1 p o) :=
  ⟨fun b u e n q => by rw [upd_ne (ne_of_none e h)]; exact k.at_ b u e n q, fun b t => by
    obtain ⟨ps, e, z⟩ := k.tab b t
    obtain ⟨ps0, e0, _⟩ := t
    exact ⟨ps, by rw [upd_ne (ne_of_none e0 h)]; exact e, z⟩, fun _ e => k.dom _ (upd_none e).2, fun b ps l n e => by rw [upd_ne (ne_of_none e h)]; exact k.lam b ps l n e⟩
theorem Ke.put {H : Hp} {p : Addr} {o u : HO} (h : H p = some u) (hu : ∀ ps, u ≠ .tbl ps) : Kx (fun b => b = p) H (upd H p o) :=
  ⟨fun b v e _ q => by rw [upd_ne q]; exact e, fun b ⟨ps, e, t⟩ => ⟨ps, by rw [upd_ne (ne_of e h fun z => hu ps z.symm)]; exact e, t⟩, fun _ e => (upd_none e).2, fun b ps _ q e => by rw [upd_ne q]; exact e⟩
theorem Ke.tabd {P : Addr} {H H1 : Hp} (h : TabG H P) (t : Tabd P H H1) : Ke H H1 := by
  obtain ⟨ps, hp, _, hl⟩ := h
  refine ⟨fun b o e n _ => (t.2 b fun z => ?_).trans e, fun b ⟨qs, e, q⟩ => ?_, fun b e => ?_, fun b qs l _ e => (t.2 b fun z => ?_).trans e⟩
  · rw [z, hp] at e
    exact n ps (Option.some.inj e).symm
  · by_cases hb : b = P
    · rw [hb]
      exact t.1
    · exact ⟨qs, (t.2 b hb).trans e, q⟩
  · by_cases hb : b = P
    · obtain ⟨qs, z, _⟩ := t.1
      rw [hb, z] at e
      cases e
    · exact (t.2 b hb).symm.trans e
  · rw [z, hl] at l
    cases l
theorem Ke.lst {H H' : Hp} (a : Ke H H') {p : Addr} {xs : List V} (h : H p = some (.lst xs)) : H' p = some (.lst xs) := a.at_ p _ h (fun _ z => nomatch z) fun z => z
theorem Kx.tup {S : Addr → Prop} {H H' : Hp} (a : Kx S H H') {p : Addr} {xs : List V} (h : H p = some (.tup xs)) (n : ¬ S p) : H' p = some (.tup xs) := a.at_ p _ h (fun _ z => nomatch z) n
theorem Ke.tup {H H' : Hp} (a : Ke H H') {p : Addr} {xs : List V} (h : H p = some (.tup xs)) : H' p = some (.tup xs) := a.at_ p _ h (fun _ z => nomatch z) fun z => z
theorem Kx.seqL {S : Addr → Prop} {K : PySem.W.Frag} {H H' : Hp} {p : Addr} {xs : List V} (a : Kx S H H') (h : SqL K H p xs) (n : ¬ S p) : SqL K H' p xs := by
  rcases h with (h | ⟨o, h⟩) | h
  · exact .inl (.inl (a.at_ _ _ h (fun _ z => nomatch z) n))
  · exact .inl (.inr ⟨o, a.at_ _ _ h (fun _ z => nomatch z) n⟩)
  · exact .inr h
theorem sqT_of {K : PySem.W.Frag} {H : Hp} {p : Addr} {xs : List V} (h : H p = some (.tup xs)) : SqT K H p xs := .inl (.inl h)
theorem sqL_of {K : PySem.W.Frag} {H : Hp} {p : Addr} {xs : List V} (h : H p = some (.lst xs)) : SqL K H p xs := .inl (.inl h)
/-! ### the deck of drawn numbers -/
def Dig (ds : List Int) : Prop := ∀ d ∈ ds, 0 ≤ d ∧ d < 1000
def Deck (H : Hp) (p : Addr) : Prop := ∃ ds : List Int, H p = some (.lst (ds.map V.int)) ∧ Dig ds
/-- numbers were drawn; besides nothing has changed but what is new -/
structure Dk (p : Addr) (H H' : Hp) : Prop where
  k : Kx (fun b => b = p) H H'
  d : Deck H' p
theorem Dk.refl {p : Addr} {H : Hp} (d : Deck H p) : Dk p H H := ⟨.refl, d⟩
theorem Dk.trans {p : Addr} {H H1 H2 : Hp} (a : Dk p H H1) (b : Dk p H1 H2) : Dk p H H2 := ⟨a.k.trans b.k, b.d⟩
theorem Deck.ke {H H' : Hp} {p : Addr} (d : Deck H p) (a : Ke H H') : Deck H' p := by
  obtain ⟨ds, h, g⟩ := d
  exact ⟨ds, a.lst h, g⟩
theorem Dk.ke {p : Addr} {H H1 H2 : Hp} (a : Dk p H H1) (b : Ke H1 H2) : Dk p H H2 := ⟨a.k.trans b.to, a.d.ke b⟩
theorem Dk.new {p q : Addr} {H H1 : Hp} {o : HO} (a : Dk p H H1) (h : H1 q = none) : Dk p H (upd H1 q o) := a.ke (Ke.new h)
theorem Deck.new {p q : Addr} {H : Hp} {o : HO} (a : Deck H p) (h : H q = none) : Deck (upd H q o) p := a.ke (Ke.new h)
theorem Dk.tup {p q : Addr} {H H1 : Hp} {xs : List V} (a : Dk p H H1) (d : Deck H p) (h : H q = some (.tup xs)) : H1 q = some (.tup xs) := by
  obtain ⟨ds, hd, _⟩ := d
  exact a.k.tup h (ne_of h hd (fun z => nomatch z))
theorem Dk.lst {p q : Addr} {H H1 : Hp} {xs : List V} (a : Dk p H H1) (h : H q = some (.lst xs)) (n : q ≠ p) : H1 q = some (.lst xs) := a.k.at_ q _ h (fun _ z => nomatch z) n
theorem Dk.seqL {K : PySem.W.Frag} {p q : Addr} {H H1 : Hp} {xs : List V} (a : Dk p H H1) (h : SqL K H q xs) (n : q ≠ p) : SqL K H1 q xs := a.k.seqL h n
/-! ### webs -/
def Ties (H : Hp) (rs : List V) (ts : List (Int × Int)) : Prop := Paired (fun (r : V) (t : Int × Int) => ∃ q, r = .ref q ∧ H q = some (.tup [.int t.1, .int t.2])) rs ts
def Web (H : Hp) (v : V) (n : Int) (ts : List (Int × Int)) : Prop := ∃ t u rs, v = .ref t ∧ H t = some (.tup [.int n, .ref u]) ∧ H u = some (.tup rs) ∧ Ties H rs ts
theorem Ties.mono {H H' : Hp} {rs : List V} {ts : List (Int × Int)} (h : Ties H rs ts) (k : ∀ q xs, H q = some (.tup xs) → H' q = some (.tup xs)) : Ties H' rs ts := L2.Paired.mapP h fun _ _ ⟨q, e, z⟩ => ⟨q, e, k q _ z⟩
theorem Web.mono {H H' : Hp} {v : V} {n : Int} {ts : List (Int × Int)} (h : Web H v n ts) (k : ∀ q xs, H q = some (.tup xs) → H' q = some (.tup xs)) : Web H' v n ts := by
  obtain ⟨t, u, rs, e, h1, h2, h3⟩ := h
  exact ⟨t, u, rs, e, k _ _ h1, k _ _ h2, h3.mono k⟩
theorem Ties.ke {H H' : Hp} {rs : List V} {ts : List (Int × Int)} (h : Ties H rs ts) (k : Ke H H') : Ties H' rs ts := h.mono fun _ _ => k.tup
theorem Web.ke {H H' : Hp} {v : V} {n : Int} {ts : List (Int × Int)} (h : Web H v n ts) (k : Ke H H') : Web H' v n ts := h.mono fun _ _ => k.tup
theorem Ties.dk {H H' : Hp} {p : Addr} {rs : List V} {ts : List (Int × Int)} (h : Ties H rs ts) (k : Dk p H H') (d : Deck H p) : Ties H' rs ts := h.mono fun _ _ => k.tup d
theorem Web.dk {H H' : Hp} {p : Addr} {v : V} {n : Int} {ts : List (Int × Int)} (h : Web H v n ts) (k : Dk p H H') (d : Deck H p) : Web H' v n ts := h.mono fun _ _ => k.tup d
theorem Ties.append {H : Hp} : ∀ {rs qs : List V} {ts us : List (Int × Int)}, Ties H rs ts → Ties H qs us → Ties H (rs ++ qs) (ts ++ us)
  | _, _, _, _, .nil, b => b
  | _, _, _, _, .cons r t, b => .cons r (Ties.append t b)
theorem Ties.take {H : Hp} : ∀ {rs : List V} {ts : List (Int × Int)} (n : Nat), Ties H rs ts → Ties H (rs.take n) (ts.take n)
  | _, _, 0, _ => .nil
  | _, _, _ + 1, .nil => .nil
  | _, _, n + 1, .cons r t => .cons r (Ties.take n t)
theorem Ties.drop {H : Hp} : ∀ {rs : List V} {ts : List (Int × Int)} (n : Nat), Ties H rs ts → Ties H (rs.drop n) (ts.drop n)
  | _, _, 0, h => h
  | _, _, _ + 1, .nil => .nil
  | _, _, n + 1, .cons _ t => Ties.drop n t
theorem Ties.length {H : Hp} {rs : List V} {ts : List (Int × Int)} (h : Ties H rs ts) : rs.length = ts.length := Paired.length h
theorem Ties.get {H : Hp} : ∀ {rs : List V} {ts : List (Int × Int)} {i : Nat} {r : V}, Ties H rs ts → rs[i]? = some r → ∃ t q, ts[i]? = some t ∧ r = .ref q ∧ H q = some (.tup [.int t.1, .int t.2])
  | _, _, _, _, .nil, e => by simp at e
  | _, _, 0, _, .cons (b := t) ⟨q, e1, e2⟩ _, e => by simp at e; subst e; exact ⟨t, q, rfl, e1, e2⟩
  | _, _, i + 1, r, .cons _ t, e => by
    obtain ⟨u, q, h1, h2, h3⟩ := Ties.get (i := i) (r := r) t (by simpa using e)
    exact ⟨u, q, by simpa using h1, h2, h3⟩
theorem Deck.put {H : Hp} {p q : Addr} {o : HO} (d : Deck H p) (n : p ≠ q) : Deck (upd H q o) p := by
  obtain ⟨ds, h, g⟩ := d
  exact ⟨ds, by rw [upd_ne n]; exact h, g⟩
theorem Deck.ne {H : Hp} {p q : Addr} (d : Deck H p) (h : H q = none) : p ≠ q := by
  obtain ⟨ds, e, _⟩ := d
  exact ne_of_none e h
theorem Dk.over {p q : Addr} {H G : Hp} {o : HO} (k : Dk p H G) (d : Deck H p) (h : H q = none) : Dk p H (upd G q o) := ⟨k.k.over h, k.d.put (d.ne h)⟩
theorem Ties.new {H : Hp} {p : Addr} {o : HO} {rs : List V} {ts : List (Int × Int)} (h : Ties H rs ts) (n : H p = none) : Ties (upd H p o) rs ts := h.mono fun q xs e => by rw [upd_ne (ne_of_none e n)]; exact e
theorem Ties.put {H : Hp} {p : Addr} {o : HO} {zs : List V} {rs : List V} {ts : List (Int × Int)} (h : Ties H rs ts) (n : H p = some (.lst zs)) : Ties (upd H p o) rs ts := h.mono fun q xs e => by rw [upd_ne (ne_of e n (fun z => nomatch z))]; exact e
theorem Ties.one {H : Hp} {q : Addr} {a b : Int} (h : H q = some (.tup [.int a, .int b])) : Ties H [.ref q] [(a, b)] := .cons ⟨q, rfl, h⟩ .nil
/-- a list of ties stands at l -/
def TL (H : Hp) (l : Addr) (ts : List (Int × Int)) : Prop := ∃ rs, H l = some (.lst rs) ∧ Ties H rs ts
def TOk (n : Int) (ts : List (Int × Int)) : Prop := ∀ t ∈ ts, 0 ≤ t.1 ∧ t.1 < t.2 ∧ t.2 < n
theorem TOk.nil {n : Int} : TOk n [] := fun _ z => nomatch z
theorem TOk.append {n : Int} {ts us : List (Int × Int)} (a : TOk n ts) (b : TOk n us) : TOk n (ts ++ us) := fun t ht => (List.mem_append.mp ht).elim (a t) (b t)
theorem TOk.one {n a b : Int} (h0 : 0 ≤ a) (h1 : a < b) (h2 : b < n) : TOk n [(a, b)] := fun t ht => by rw [List.mem_singleton.mp ht]; exact ⟨h0, h1, h2⟩
theorem TL.ke {H H' : Hp} {l : Addr} {ts : List (Int × Int)} (h : TL H l ts) (k : Ke H H') : TL H' l ts := by
  obtain ⟨rs, e, t⟩ := h
  exact ⟨rs, k.lst e, t.ke k⟩
theorem TL.dk {H H' : Hp} {l p : Addr} {ts : List (Int × Int)} (h : TL H l ts) (k : Dk p H H') (d : Deck H p) (n : l ≠ p) : TL H' l ts := by
  obtain ⟨rs, e, t⟩ := h
  exact ⟨rs, k.lst e n, t.dk k d⟩
end FF
namespace FF
open PySem PySem.Spec PyProof.Rows L2
variable [LT]
/-! ### the code object of a def -/
theorem code_at {K : PySem.W.Frag} {x q : Str} {pa : Arguments} {bd : List Stmt} {sc : Scope} {dvs : List V} {kws : List (Str × V)} {f : Addr} {fd : FuncData} (F : FunD K x q pa bd sc dvs kws f fd) : ∃ c, fd.code = .ref c := by
  obtain ⟨oc, od, dV, kV, doc, pm, an, cdv, ct, osl, rfl, lk, hcd, _, _⟩ := F.ex
  exact He.codeIn_ref hcd
theorem code_is {K : PySem.W.Frag} {x q : Str} {pa : Arguments} {bd : List Stmt} {sc : Scope} {dvs : List V} {kws : List (Str × V)} {p : Str × Option Str} {fd : FuncData} {c : Addr} (F : FunD K x q pa bd sc dvs kws (He.fAd K p) fd) (h : fd.code = .ref c) : fd.code = .ref (He.cT K p).1 := by
  obtain ⟨oc, od, dV, kV, doc, pm, an, cdv, ct, osl, rfl, lk, hcd, _, _⟩ := F.ex
  rw [h]
  exact congrArg Value.ref (He.codeOf_eq lk h).symm
/-! ### slices -/
theorem cut_to (xs : List V) (n : Nat) : cutV xs none (some (n : Int)) = xs.take n := by
  unfold cutV
  rw [HT.sIx_none, HT.sIx_nat]
  show (xs.drop 0).take (min n xs.length - 0) = xs.take n
  rw [List.drop_zero, Nat.sub_zero]
  rcases Nat.le_total n xs.length with h | h
  · rw [Nat.min_eq_left h]
  · rw [Nat.min_eq_right h, List.take_of_length_le (Nat.le_refl _), List.take_of_length_le h]
theorem cut_from (xs : List V) (n : Nat) : cutV xs (some (n : Int)) none = xs.drop n := by
  unfold cutV
  rw [HT.sIx_none, HT.sIx_nat]
  rcases Nat.le_total n xs.length with h | h
  · rw [Nat.min_eq_left h, List.take_of_length_le (by rw [List.length_drop]; omega)]
  · rw [Nat.min_eq_right h, Nat.sub_self, List.take_zero, List.drop_of_length_le h]
theorem cut_to' (xs : List V) {i : Int} (h : 0 ≤ i) : cutV xs none (some i) = xs.take i.toNat := by
  rw [← cut_to, Int.toNat_of_nonneg h]
theorem cut_from' (xs : List V) {i : Int} (h : 0 ≤ i) : cutV xs (some i) none = xs.drop i.toNat := by
  rw [← cut_from, Int.toNat_of_nonneg h]
theorem line_big : 16000000 ≤ sizeLine := by decide
theorem emod_bds (x : Int) {n : Int} (h : 0 < n) : 0 ≤ x % n ∧ x % n < n := ⟨Int.emod_nonneg _ (by omega), Int.emod_lt_of_pos _ h⟩
theorem get_int {xs : List Int} {i : Nat} (h : i < xs.length) : (xs.map V.int)[i]? = some (.int xs[i]) := by
  rw [List.getElem?_map, List.getElem?_eq_getElem h]
  rfl
theorem at_int {xs : List Int} {i : Int} (h0 : 0 ≤ i) (h1 : i < xs.length) : ∃ v, v ∈ xs ∧ xs[i.toNat]? = some v ∧ atI (xs.map V.int) i = some (.int v) := by
  obtain ⟨j, rfl⟩ : ∃ j : Nat, i = j := ⟨i.toNat, by omega⟩
  have hj : j < xs.length := by omega
  exact ⟨xs[j], List.getElem_mem _, List.getElem?_eq_getElem hj, atI_nat (get_int hj)⟩
theorem ix_in {n : Nat} {i : Int} (h0 : 0 ≤ i) (h1 : i < n) : ixN n i = some i.toNat := by
  unfold ixN
  rw [if_pos h0, if_pos h1]
theorem yes_ite {σ : L2.St} {H : Hp} {A B : Hp → Prop} (h : A H) : tYes σ H (fun b H3 => if b = true then A H3 else B H3) := by
  show if true = true then A H else B H
  rw [if_pos rfl]
  exact h
theorem int_at {ns : List Int} {i : Nat} {x : V} (hx : (ns.map V.int)[i]? = some x) : ∃ v, ns[i]? = some v ∧ x = .int v := by
  rw [List.getElem?_map] at hx
  cases e : ns[i]? with
  | none => rw [e] at hx; cases hx
  | some v => rw [e] at hx; exact ⟨v, rfl, (Option.some.inj hx).symm⟩
theorem Ties.rep {H : Hp} {q : Addr} {a b : Int} (h : H q = some (.tup [.int a, .int b])) : ∀ k : Nat, Ties H (List.replicate k [V.ref q]).flatten (List.replicate k (a, b))
  | 0 => .nil
  | k + 1 => by
    rw [List.replicate_succ, List.replicate_succ, List.flatten_cons]
    exact .cons ⟨q, rfl, h⟩ (Ties.rep h k)
theorem TOk.rep {n a b : Int} (h0 : 0 ≤ a) (h1 : a < b) (h2 : b < n) (k : Nat) : TOk n (List.replicate k (a, b)) := fun t ht => by
  rw [List.eq_of_mem_replicate ht]
  exact ⟨h0, h1, h2⟩
theorem TOk.mono {n m : Int} {ts : List (Int × Int)} (h : TOk n ts) (k : n ≤ m) : TOk m ts := fun t ht => ⟨(h t ht).1, (h t ht).2.1, Int.lt_of_lt_of_le (h t ht).2.2 k⟩
theorem TOk.sub {n : Int} {ts us : List (Int × Int)} (h : TOk n ts) (k : ∀ t ∈ us, t ∈ ts) : TOk n us := fun t ht => h t (k t ht)
theorem ne_one {a b : Int} (h : ¬ decide (V.int a = V.int b) = true) : a ≠ b := fun e => h (decide_eq_true (by rw [e]))
theorem lst_new {H : Hp} {p q : Addr} {o : HO} {xs : List V} (n : H p = none) (h : H q = some (.lst xs)) : upd H p o q = some (.lst xs) := by rw [upd_ne (ne_of_none h n)]; exact h
theorem tup_new {H : Hp} {p q : Addr} {o : HO} {xs : List V} (n : H p = none) (h : H q = some (.tup xs)) : upd H p o q = some (.tup xs) := by rw [upd_ne (ne_of_none h n)]; exact h
/-! ### things of any kind -/
inductive TyN (H : Hp) : V → String → Prop where
  | non : TyN H .non "NoneType"
  | bl (b : Bool) : TyN H (.bl b) "bool"
  | int (i : Int) : TyN H (.int i) "int"
  | str (x : Str) : TyN H (.str x) "str"
  | lst {a : Addr} {xs : List V} (h : H a = some (.lst xs)) : TyN H (.ref a) "list"
  | tup {a : Addr} {xs : List V} (h : H a = some (.tup xs)) : TyN H (.ref a) "tuple"
  | dic {a : Addr} {kvs : List (Key × V)} (h : H a = some (.dK kvs)) : TyN H (.ref a) "dict"
theorem TyN.x {K : PySem.W.Frag} {H : Hp} {v : V} {n : String} (h : TyN H v n) : TyX K H v (.type n) := by
  cases h with
  | non => exact .base .non
  | bl b => exact .base (.bl b)
  | int i => exact .base (.int i)
  | str x => exact .base (.str x)
  | lst h => exact .base (.lst h)
  | tup h => exact .base (.tup h)
  | dic h => exact .base (.dK h)
def isNum (v : V) (lo hi : Int) : Bool := match v with
  | .int i => decide (lo ≤ i) && decide (i ≤ hi)
  | _ => false
theorem iteB {b : Bool} {A B : Prop} (h1 : b = true → A) (h2 : b = false → B) : if b = true then A else B := by
  cases b with
  | true => exact iteT (h1 rfl)
  | false => exact iteF (h2 rfl)
end FF
namespace FF
open PySem PySem.Spec PyProof.Rows L2
variable [LT]
/-! ### walks of generator expressions -/
section
variable {α : Type} {K : PySem.W.Frag} {u : Addr} {xs : List V} {g : TG} {tt : TT} {te : TE} {vs : List Nat} {σ0 : L2.St} {yl : α → V → Hp → (α → Hp → Prop) → Prop} {dn : α → Hp → Prop} {G : Hp} {a0 : α}
end
/-! ### ties within a lot -/
def inside (ls : List Int) (ts : List (Int × Int)) : Nat := (ts.filter fun t => decide (t.1 ∈ ls) && decide (t.2 ∈ ls)).length
theorem inside_take {ls : List Int} {ts : List (Int × Int)} {i : Nat} {t : Int × Int} (h : ts[i]? = some t) : inside ls (ts.take (i + 1)) = inside ls (ts.take i) + if (decide (t.1 ∈ ls) && decide (t.2 ∈ ls)) = true then 1 else 0 := by
  unfold inside
  rw [List.take_succ, h, List.filter_append, List.length_append]
  congr 1
  show (List.filter _ [t]).length = _
  rw [List.filter_cons]
  split <;> rfl
theorem inside_le (ls : List Int) (ts : List (Int × Int)) : inside ls ts ≤ ts.length := List.length_filter_le _ _
theorem flat_ints (ls : List Int) : (ls.map V.int).all flatV = true := by
  rw [List.all_eq_true]
  intro v hv
  obtain ⟨i, _, rfl⟩ := List.mem_map.mp hv
  rfl
theorem inV_int (a : Int) (ls : List Int) : inV (.int a) (ls.map V.int) = decide (a ∈ ls) := by
  unfold inV
  rw [List.any_map]
  induction ls with
  | nil => rfl
  | cons x r ih =>
    rw [List.any_cons, ih]
    have e : ((fun y => eqV y (V.int a)) ∘ V.int) x = decide (x = a) := rfl
    rw [e]
    by_cases hx : x = a
    · subst hx
      simp
    · have : ¬ a = x := fun z => hx z.symm
      simp [hx, this]
end FF
namespace FF
open PySem PySem.Spec PyProof.Rows L2
variable [LT]
/-! ### rules that speak of the written part, by its own letter (for the blocks of comprehensions) -/
section
variable {X : Cx} {K : PySem.W.Frag}
theorem in_seqK (h : X.K = K := by rfl) : OpR X (compareOp .In) (rIn K false) := h ▸ op_in_seq
theorem notIn_seqK (h : X.K = K := by rfl) : OpR X (compareOp .NotIn) (rIn K true) := h ▸ op_notIn_seq
theorem ix_listK (h : X.K = K := by rfl) : IxR X (rIxL K) := h ▸ ix_list
theorem ix_tupK (h : X.K = K := by rfl) : IxR X (rIxT K) := h ▸ ix_tup
theorem sl_listK (h : X.K = K := by rfl) : L2.SlR X (rSlL K) := h ▸ sl_list
theorem eqDK (hu : X.A.units + 64 < cLine) (h : X.K = K := by rfl) : OpR X (compareOp .Eq) (rEqD K) := h ▸ op_eqD hu
theorem neDK (hu : X.A.units + 64 < cLine) (h : X.K = K := by rfl) : OpR X (compareOp .NotEq) (rNeD K) := h ▸ op_neD hu
theorem lenK (h : X.K = K := by rfl) : CallR X (.builtin "len") (fun xs H Q => ∃ p ys, xs = [.ref p] ∧ (SqL K H p ys ∨ SqT K H p ys) ∧ Q (.int ys.length) H) := h ▸ call_len_seq
theorem listK (h : X.K = K := by rfl) : CallR X (.type "list") (fun xs H Q => ∃ p ys, xs = [.ref p] ∧ (SqL K H p ys ∨ SqT K H p ys) ∧ ∀ l, H l = none → Q (.ref l) (upd H l (.lst ys))) := h ▸ call_list_of
theorem tupleK (h : X.K = K := by rfl) : CallR X (.type "tuple") (fun xs H Q => ∃ p ys, xs = [.ref p] ∧ ((SqL K H p ys ∧ ∀ l, H l = none → Q (.ref l) (upd H l (.tup ys))) ∨ (SqT K H p ys ∧ Q (.ref p) H))) := h ▸ call_tuple_of
theorem isiK (h : X.K = K := by rfl) : CallR X (.builtin "isinstance") (rIsi K) := h ▸ call_isi
theorem sumK (hc : X.calm = true) (h : X.K = K := by rfl) : CallR X (.builtin "sum") (rSum K) := h ▸ cr_sum hc
theorem tgtK {es : List Expr} {k n : Nat} {t : TGs} {pos : Pos} (hp : PGs X es t) (hc : X.calm = true := by rfl) (h : X.K = K := by rfl)
    (hn : (assignEach es X.env).length = n := by rfl) (hst : (assignEach es X.env).findIdx? (·.1) = none := by rfl) : PG X (.Tuple es k pos) (gTup K n t) := h ▸ pg_tup hc hp hn hst
end
/-! ### slices and sums of tuples: what is told may be an old tuple or a new one -/
def rSlU (_ : PySem.W.Frag) : V → Option Int → Option Int → Hp → VK → Prop := fun x lo hi H Q => ∃ a xs, x = .ref a ∧ H a = some (.tup xs) ∧ ∀ p H', Ke H H' → H' p = some (.tup (cutV xs lo hi)) → Q (.ref p) H'
theorem sl_tupU {X : Cx} {K : PySem.W.Frag} (h : X.K = K := by rfl) : L2.SlR X (rSlU K) := by
  intro pins s σ H x v vl vu lo hi sl Q I rx hs pl pu hq
  obtain ⟨a, xs, e, hx, q⟩ := hq
  refine sl_tupA pins s σ H x v vl vu lo hi sl Q I rx hs pl pu ⟨a, xs, e, sqT_of hx, fun hw => q a H .refl ?_, fun _ p np => q p _ (Ke.new np) upd_same⟩
  rw [hx]
  unfold cutV
  rw [hw.1, hw.2, List.drop_zero, Nat.sub_zero, List.take_length]
def rCatU (_ : PySem.W.Frag) : R2 := fun x y H Q => ∃ a b xs ys, x = .ref a ∧ y = .ref b ∧ H a = some (.tup xs) ∧ H b = some (.tup ys) ∧ xs.length + ys.length ≤ sizeLine ∧ ∀ p H', Ke H H' → H' p = some (.tup (xs ++ ys)) → Q (.ref p) H'
theorem catU {X : Cx} {K : PySem.W.Frag} (h : X.K = K := by rfl) : OpR X (binaryOp .Add) (rCatU K) := by
  intro pins s σ H x y v u Q I rx ry hq
  obtain ⟨a, b, xs, ys, e1, e2, hx, hy, hl, q⟩ := hq
  refine op_catA pins s σ H x y v u Q I rx ry ⟨a, b, xs, ys, e1, e2, sqT_of hx, sqT_of hy, hl, fun z => q b H .refl ?_, fun _ z => q a H .refl ?_, fun _ _ p np => q p _ (Ke.new np) upd_same⟩
  · rw [hy, z, List.nil_append]
  · rw [hx, z, List.append_nil]
end FF
namespace FF
open PySem PySem.Spec PyProof.Rows L2
variable [LT]
/-! ### walked things with the written part said -/
section
variable {X : Cx} {K : PySem.W.Frag} {tg l : Expr} {tl : TE}
theorem pi_listK (hl : PE X l tl) (h : X.K = K := by rfl) : PI X tg l (iList K tl) := h ▸ pi_list hl
theorem pi_tupK (hl : PE X l tl) (h : X.K = K := by rfl) : PI X tg l (iTup K tl) := h ▸ pi_tup hl
theorem pe_revLK {e : Expr} {te : TE} {k : Nat} {p1 p2 p3 pos : Pos} (he : PE X e te) (h : X.K = K := by rfl) : PE X (.Subscript e (.Slice none none (some (.UnaryOp .USub (.Constant (.int 1) k p1) p2)) p3) pos) (tRevL K te) := h ▸ pe_revL he
end
section
variable {X : Cx} {K : PySem.W.Frag} {T : String} {name : Str} {id : String} {r : V → List V → Hp → VK → Prop} {o e : Expr} {es : List Expr} {to : TE} {t : TA} {apos cpos : Pos}
end
end FF
namespace FF
open PySem PySem.Spec PyProof.Rows L2
variable [LT]
/-! ### lots -/
/-- a thing is a tuple of these, or of another kind -/
inductive Tpl (H : Hp) : V → Option (List V) → Prop where
  | yes {a : Addr} {xs : List V} (h : H a = some (.tup xs)) (hx : ∀ x ∈ xs, ∃ n, TyN H x n) : Tpl H (.ref a) (some xs)
  | no {v : V} {n : String} (h : TyN H v n) (hn : n ≠ "tuple") : Tpl H v none
/-- rising from lo, below n -/
def rising (n : Int) : Int → List V → Bool
  | _, [] => true
  | lo, v :: r => match v with
    | .int i => isNum v lo (n - 1) && rising n (i + 1) r
    | _ => false
def lotO (n : Int) : Option (List V) → Bool
  | none => false
  | some [] => false
  | some (v :: r) => rising n 0 (v :: r)
def intsOf (xs : List V) : List Int := xs.map fun v => match v with
  | .int i => i
  | _ => 0
def fullO (n : Int) (ts : List (Int × Int)) (k : Int) (o : Option (List V)) : Bool := lotO n o && match o with
  | none => false
  | some xs => decide ((inside (intsOf xs) ts : Int) > k * ((xs.length : Int) - 1))
theorem intsOf_map (ls : List Int) : intsOf (ls.map V.int) = ls := by
  unfold intsOf
  rw [List.map_map]
  exact List.map_id' ls
structure Lot (n : Int) (ls : List Int) : Prop where
  ne : ls ≠ []
  up : ls.Pairwise (· < ·)
  ok : ∀ x ∈ ls, 0 ≤ x ∧ x < n
theorem rising_of {n : Int} : ∀ {lo : Int} {ls : List Int}, ls.Pairwise (· < ·) → (∀ x ∈ ls, lo ≤ x ∧ x < n) → rising n lo (ls.map V.int) = true
  | _, [], _, _ => rfl
  | lo, i :: r, hp, hx => by
    obtain ⟨h1, h2⟩ := List.pairwise_cons.mp hp
    have hi := hx i List.mem_cons_self
    show (isNum (.int i) lo (n - 1) && rising n (i + 1) (r.map V.int)) = true
    rw [Bool.and_eq_true_iff]
    refine ⟨?_, rising_of h2 fun x hm => ⟨?_, (hx x (List.mem_cons_of_mem _ hm)).2⟩⟩
    · show (decide (lo ≤ i) && decide (i ≤ n - 1)) = true
      rw [decide_eq_true hi.1, decide_eq_true (by omega : i ≤ n - 1)]
      rfl
    · have := h1 x hm
      omega
theorem Lot.o {n : Int} {ls : List Int} (h : Lot n ls) : lotO n (some (ls.map V.int)) = true := by
  cases e : ls with
  | nil => exact absurd e h.ne
  | cons i r =>
    rw [← e]
    have : lotO n (some (ls.map V.int)) = rising n 0 (ls.map V.int) := by rw [e]; rfl
    rw [this]
    exact rising_of h.up h.ok
theorem Lot.full {n : Int} {ls : List Int} (h : Lot n ls) (ts : List (Int × Int)) (k : Int) : fullO n ts k (some (ls.map V.int)) = decide ((inside ls ts : Int) > k * ((ls.length : Int) - 1)) := by
  unfold fullO
  rw [h.o, Bool.true_and]
  show decide ((inside (intsOf (ls.map V.int)) ts : Int) > k * (((ls.map V.int).length : Int) - 1)) = _
  rw [intsOf_map, List.length_map]
theorem Lot.one {n x : Int} (h0 : 0 ≤ x) (h1 : x < n) : Lot n [x] := ⟨List.cons_ne_nil _ _, List.pairwise_singleton _ _, fun y hy => by rw [List.mem_singleton.mp hy]; exact ⟨h0, h1⟩⟩
theorem Lot.two {n x y : Int} (h0 : 0 ≤ x) (h1 : x < y) (h2 : y < n) : Lot n [x, y] := ⟨List.cons_ne_nil _ _, by simp [h1], fun z hz => by
  rcases List.mem_cons.mp hz with rfl | hz
  · exact ⟨h0, by omega⟩
  · rw [List.mem_singleton.mp hz]
    exact ⟨by omega, h2⟩⟩
theorem ty_ints {H : Hp} (ls : List Int) : ∀ x ∈ ls.map V.int, ∃ n, TyN H x n := fun x hx => by
  obtain ⟨i, _, rfl⟩ := List.mem_map.mp hx
  exact ⟨_, .int i⟩
theorem dp_ints {K : PySem.W.Frag} {H : Hp} : ∀ ls : List Int, DpAll K H (ls.map V.int) (ls.map PyData.int)
  | [] => .nil
  | i :: r => .cons (.int i) (dp_ints r)
theorem Lot.all {n : Int} (h : 1 ≤ n) : Lot n ((List.range n.toNat).map fun (i : Nat) => (i : Int)) := by
  refine ⟨fun z => ?_, ?_, fun x hx => ?_⟩
  · have := congrArg List.length z
    simp at this
    omega
  · rw [List.pairwise_map]
    exact List.pairwise_lt_range.imp fun h => by omega
  · obtain ⟨i, hi, rfl⟩ := List.mem_map.mp hx
    have := List.mem_range.mp hi
    omega
theorem rgV_ints (n : Int) : rgV 0 n = ((List.range n.toNat).map fun (i : Nat) => (i : Int)).map V.int := by
  unfold rgV
  rw [List.map_map, Int.sub_zero]
  apply List.map_congr_left
  intro i _
  show V.int (0 + (i : Int)) = V.int (i : Int)
  rw [Int.zero_add]
theorem up_length {n : Int} : ∀ {lo : Int} {ls : List Int}, ls.Pairwise (· < ·) → (∀ x ∈ ls, lo ≤ x ∧ x < n) → (ls.length : Int) ≤ max 0 (n - lo)
  | _, [], _, _ => by simp; omega
  | lo, i :: r, hp, hx => by
    obtain ⟨h1, h2⟩ := List.pairwise_cons.mp hp
    have hi := hx i List.mem_cons_self
    have ih := up_length (lo := i + 1) h2 fun x hm => ⟨by have := h1 x hm; omega, (hx x (List.mem_cons_of_mem _ hm)).2⟩
    rw [List.length_cons]
    omega
theorem Lot.length {n : Int} {ls : List Int} (h : Lot n ls) : (ls.length : Int) ≤ max 0 n := by
  have := up_length h.up h.ok
  omega
end FF
namespace FF
open PySem PySem.Spec PyProof.Rows L2
variable [LT]
/-! ### joined points: roots, labels, and how many are apart (plain mathematics) -/
theorem step_mem (acc : List Int) (x k : Int) : k ∈ step_dedup acc x ↔ k ∈ acc ∨ k = x := by
  unfold step_dedup
  split
  · rename_i h
    constructor
    · exact .inl
    · rintro (z | rfl)
      · exact z
      · simpa using h
  · simp
theorem step_nd {acc : List Int} (x : Int) (h : acc.Nodup) : (step_dedup acc x).Nodup := by
  unfold step_dedup
  split
  · exact h
  · rename_i hx
    rw [List.nodup_append]
    refine ⟨h, by simp, fun a ha b hb => ?_⟩
    rw [List.mem_singleton.mp hb]
    rintro rfl
    exact hx (by simpa using ha)
theorem fold_mem : ∀ (ns acc : List Int) (k : Int), k ∈ ns.foldl step_dedup acc ↔ k ∈ acc ∨ k ∈ ns
  | [], acc, k => by simp
  | x :: r, acc, k => by
    rw [List.foldl_cons, fold_mem r, step_mem, List.mem_cons, or_assoc]
theorem fold_nd : ∀ (ns acc : List Int), acc.Nodup → (ns.foldl step_dedup acc).Nodup
  | [], _, h => h
  | x :: r, acc, h => by
    rw [List.foldl_cons]
    exact fold_nd r _ (step_nd x h)
theorem mem_nub (ns : List Int) (k : Int) : k ∈ nub ns ↔ k ∈ ns := by
  unfold nub
  rw [fold_mem]
  simp
theorem nub_nd (ns : List Int) : (nub ns).Nodup := fold_nd ns [] List.nodup_nil
theorem nd_le : ∀ {l m : List Int}, l.Nodup → (∀ x ∈ l, x ∈ m) → l.length ≤ m.length
  | [], _, _, _ => Nat.zero_le _
  | x :: r, m, hd, hs => by
    obtain ⟨h1, h2⟩ := List.nodup_cons.mp hd
    have hx := hs x List.mem_cons_self
    have ih := nd_le (l := r) (m := m.erase x) h2 fun y hy => by
      have hne : y ≠ x := fun z => h1 (z ▸ hy)
      exact (List.mem_erase_of_ne hne).mpr (hs y (List.mem_cons_of_mem _ hy))
    rw [List.length_erase_of_mem hx] at ih
    have := List.length_pos_of_mem hx
    rw [List.length_cons]
    omega
theorem nd_eq {l m : List Int} (h1 : l.Nodup) (h2 : m.Nodup) (h : ∀ x, x ∈ l ↔ x ∈ m) : l.length = m.length :=
  Nat.le_antisymm (nd_le h1 fun x hx => (h x).mp hx) (nd_le h2 fun x hx => (h x).mpr hx)
/-- labels, two of them made one -/
def mrg (a b x : Int) : Int := if x = a ∨ x = b then min a b else x
theorem nub_same (a : Int) (hs : List Int) : (nub (hs.map (mrg a a))).length = (nub hs).length := by
  have e : hs.map (mrg a a) = hs := by
    conv => rhs; rw [← List.map_id hs]
    apply List.map_congr_left
    intro x _
    unfold mrg
    split
    · rename_i h
      rcases h with rfl | rfl <;> simp
    · rfl
  rw [e]
theorem nub_less {a b : Int} {hs : List Int} (ha : a ∈ hs) (hb : b ∈ hs) (h : a ≠ b) : (nub (hs.map (mrg a b))).length + 1 = (nub hs).length := by
  have hmax : max a b ∈ nub hs := (mem_nub _ _).mpr (by
    rcases Int.le_total a b with z | z
    · rw [Int.max_eq_right z]; exact hb
    · rw [Int.max_eq_left z]; exact ha)
  have hl : ((nub hs).erase (max a b)).length + 1 = (nub hs).length := by
    rw [List.length_erase_of_mem hmax]
    have := List.length_pos_of_mem hmax
    omega
  rw [← hl]
  congr 1
  refine nd_eq (nub_nd _) ((nub_nd hs).erase _) fun x => ?_
  rw [mem_nub, List.mem_map, (nub_nd hs).mem_erase_iff, mem_nub]
  constructor
  · rintro ⟨y, hy, rfl⟩
    unfold mrg
    split
    · refine ⟨by omega, ?_⟩
      rcases Int.le_total a b with z | z
      · rw [Int.min_eq_left z]; exact ha
      · rw [Int.min_eq_right z]; exact hb
    · rename_i hn
      exact ⟨by omega, hy⟩
  · rintro ⟨h1, h2⟩
    by_cases hx : x = a ∨ x = b
    · refine ⟨x, h2, ?_⟩
      unfold mrg
      rw [if_pos hx]
      omega
    · refine ⟨x, h2, ?_⟩
      unfold mrg
      rw [if_neg hx]
end FF
namespace FF
open PySem PySem.Spec PyProof.Rows L2
variable [LT]
def rstep (r : Int → Int) (t : Int × Int) : Int → Int := fun x => if r x = r t.2 then r t.1 else r x
def ringlessF : (Int → Int) → List (Int × Int) → Bool
  | _, [] => true
  | r, t :: ts => if r t.1 = r t.2 then false else ringlessF (rstep r t) ts
def hat (hs : List Int) (x : Int) : Int := hs.getD x.toNat 0
def hstep (hs : List Int) (t : Int × Int) : List Int := hs.map (mrg (hat hs t.1) (hat hs t.2))
def headsF (hs : List Int) (ts : List (Int × Int)) : List Int := ts.foldl hstep hs
structure Ker (n : Int) (r : Int → Int) (hs : List Int) : Prop where
  len : (hs.length : Int) = n
  ker : ∀ x y, 0 ≤ x → x < n → 0 ≤ y → y < n → (r x = r y ↔ hat hs x = hat hs y)
theorem hat_map {hs : List Int} {f : Int → Int} {x : Int} (h0 : 0 ≤ x) (h1 : x < hs.length) : hat (hs.map f) x = f (hat hs x) := by
  have hx : x.toNat < hs.length := by omega
  unfold hat
  rw [List.getD_eq_getElem?_getD, List.getD_eq_getElem?_getD, List.getElem?_map, List.getElem?_eq_getElem hx]
  rfl
theorem hat_mem {hs : List Int} {x : Int} (h0 : 0 ≤ x) (h1 : x < hs.length) : hat hs x ∈ hs := by
  have hx : x.toNat < hs.length := by omega
  unfold hat
  rw [List.getD_eq_getElem?_getD, List.getElem?_eq_getElem hx]
  exact List.getElem_mem hx
theorem Ker.step {n : Int} {r : Int → Int} {hs : List Int} (k : Ker n r hs) {t : Int × Int} (h : 0 ≤ t.1 ∧ t.1 < t.2 ∧ t.2 < n) : Ker n (rstep r t) (hstep hs t) := by
  have hl := k.len
  refine ⟨by unfold hstep; rw [List.length_map]; exact hl, fun x y x0 x1 y0 y1 => ?_⟩
  unfold hstep
  rw [hat_map x0 (by omega), hat_map y0 (by omega)]
  have a1 := k.ker x y x0 x1 y0 y1
  have a2 := k.ker x t.1 x0 x1 h.1 (by omega)
  have a3 := k.ker x t.2 x0 x1 (by omega) h.2.2
  have a4 := k.ker y t.1 y0 y1 h.1 (by omega)
  have a5 := k.ker y t.2 y0 y1 (by omega) h.2.2
  have a6 := k.ker t.1 t.2 h.1 (by omega) (by omega) h.2.2
  unfold rstep mrg
  generalize r x = rx at *
  generalize r y = ry at *
  generalize r t.1 = ra at *
  generalize r t.2 = rb at *
  generalize hat hs x = hx at *
  generalize hat hs y = hy at *
  generalize hat hs t.1 = ha at *
  generalize hat hs t.2 = hb at *
  split <;> split <;> split <;> split <;> omega
theorem nub_step {n : Int} {r : Int → Int} {hs : List Int} (k : Ker n r hs) {t : Int × Int} (h : 0 ≤ t.1 ∧ t.1 < t.2 ∧ t.2 < n) :
    (r t.1 = r t.2 → (nub (hstep hs t)).length = (nub hs).length) ∧ (r t.1 ≠ r t.2 → (nub (hstep hs t)).length + 1 = (nub hs).length) := by
  have hl := k.len
  have e := k.ker t.1 t.2 h.1 (by omega) (by omega) h.2.2
  refine ⟨fun z => ?_, fun z => ?_⟩
  · unfold hstep
    rw [← e.mp z]
    exact nub_same _ _
  · unfold hstep
    exact nub_less (hat_mem h.1 (by omega)) (hat_mem (by omega) (by omega)) fun q => z (e.mpr q)
theorem forest_count {n : Int} : ∀ (ts : List (Int × Int)) (r : Int → Int) (hs : List Int), Ker n r hs → TOk n ts →
    (nub hs).length ≤ ts.length + (nub (headsF hs ts)).length ∧ (ringlessF r ts = true ↔ ts.length + (nub (headsF hs ts)).length = (nub hs).length)
  | [], r, hs, _, _ => by
    refine ⟨by simp [headsF], ?_⟩
    simp [headsF, ringlessF]
  | t :: ts, r, hs, k, hok => by
    have ht := hok t List.mem_cons_self
    obtain ⟨i1, i2⟩ := forest_count ts (rstep r t) (hstep hs t) (k.step ht) fun x hx => hok x (List.mem_cons_of_mem _ hx)
    obtain ⟨s1, s2⟩ := nub_step k ht
    have e : headsF hs (t :: ts) = headsF (hstep hs t) ts := rfl
    rw [e, List.length_cons]
    unfold ringlessF
    by_cases z : r t.1 = r t.2
    · have := s1 z
      rw [if_pos z]
      refine ⟨by omega, ?_⟩
      constructor
      · intro q; cases q
      · intro q; omega
    · have := s2 z
      rw [if_neg z]
      refine ⟨by omega, ?_⟩
      rw [i2]
      omega
def upTo (n : Int) : List Int := (List.range n.toNat).map fun (i : Nat) => (i : Int)
theorem upTo_length (n : Int) : (upTo n).length = n.toNat := by unfold upTo; rw [List.length_map, List.length_range]
theorem upTo_nd (n : Int) : (upTo n).Nodup := by
  unfold upTo
  rw [List.nodup_iff_pairwise_ne, List.pairwise_map]
  exact List.pairwise_lt_range.imp fun h => by omega
theorem upTo_nub (n : Int) : (nub (upTo n)).length = n.toNat := by
  rw [← upTo_length n]
  exact nd_eq (nub_nd _) (upTo_nd n) fun x => mem_nub _ x
theorem hat_upTo {n x : Int} (h0 : 0 ≤ x) (h1 : x < n) : hat (upTo n) x = x := by
  have hx : x.toNat < (upTo n).length := by rw [upTo_length]; omega
  unfold hat
  rw [List.getD_eq_getElem?_getD, List.getElem?_eq_getElem hx]
  simp only [upTo, List.getElem_map, List.getElem_range, Option.getD_some]
  omega
theorem Ker.start {n : Int} (h : 0 ≤ n) : Ker n (fun x => x) (upTo n) := ⟨by rw [upTo_length]; omega, fun x y x0 x1 y0 y1 => by rw [hat_upTo x0 x1, hat_upTo y0 y1]⟩
theorem forest_iff {n : Int} (h : 0 ≤ n) {ts : List (Int × Int)} (ok : TOk n ts) : ringlessF (fun x => x) ts = decide (((ts.length : Int) + ((nub (headsF (upTo n) ts)).length : Int)) = n) := by
  have q := (forest_count ts _ _ (Ker.start h) ok).2
  rw [upTo_nub] at q
  by_cases z : ringlessF (fun x => x) ts = true
  · rw [z]
    have := q.mp z
    exact (decide_eq_true (by omega)).symm
  · rw [Bool.eq_false_iff.mpr z]
    refine (decide_eq_false fun e => z (q.mpr (by omega))).symm
end FF
namespace FF
open PySem PySem.Spec PyProof.Rows L2
variable [LT]
/-! ### leaders: each point leads to one nearer to its root -/
structure UF (n : Int) (ls : List Int) (r : Int → Int) (d : Int → Nat) : Prop where
  len : (ls.length : Int) = n
  rng : ∀ x, 0 ≤ x → x < n → 0 ≤ hat ls x ∧ hat ls x < n
  root : ∀ x, 0 ≤ x → x < n → r (hat ls x) = r x
  top : ∀ x, 0 ≤ x → x < n → hat ls x = x → r x = x
  down : ∀ x, 0 ≤ x → x < n → hat ls x ≠ x → d (hat ls x) < d x
  rr : ∀ x, 0 ≤ x → x < n → 0 ≤ r x ∧ r x < n ∧ hat ls (r x) = r x
theorem hat_set {ls : List Int} {i v x : Int} (h0 : 0 ≤ i) (h1 : i < ls.length) (x0 : 0 ≤ x) : hat (ls.set i.toNat v) x = if x = i then v else hat ls x := by
  unfold hat
  rw [List.getD_eq_getElem?_getD, List.getD_eq_getElem?_getD, List.getElem?_set]
  by_cases e : x = i
  · subst e
    rw [if_pos rfl, if_pos rfl, if_pos (by omega)]
    rfl
  · rw [if_neg e, if_neg (by omega)]
/-- halving the way -/
theorem UF.half {n : Int} {ls : List Int} {r : Int → Int} {d : Int → Nat} (u : UF n ls r d) {x : Int} (x0 : 0 ≤ x) (x1 : x < n) (hne : hat ls x ≠ x) : UF n (ls.set x.toNat (hat ls (hat ls x))) r d := by
  have hl := u.len
  obtain ⟨y0, y1⟩ := u.rng x x0 x1
  obtain ⟨z0, z1⟩ := u.rng _ y0 y1
  have hs : ∀ y, 0 ≤ y → hat (ls.set x.toNat (hat ls (hat ls x))) y = if y = x then hat ls (hat ls x) else hat ls y := fun y h => hat_set x0 (by omega) h
  have hrz : r (hat ls (hat ls x)) = r x := (u.root _ y0 y1).trans (u.root x x0 x1)
  have hdd : d (hat ls (hat ls x)) < d x := by
    have h1 := u.down x x0 x1 hne
    by_cases e : hat ls (hat ls x) = hat ls x
    · rw [e]; exact h1
    · have := u.down _ y0 y1 e
      omega
  refine ⟨by rw [List.length_set]; exact hl, fun y h0 h1 => ?_, fun y h0 h1 => ?_, fun y h0 h1 => ?_, fun y h0 h1 => ?_, fun y h0 h1 => ?_⟩
  · rw [hs y h0]
    split
    · exact ⟨z0, z1⟩
    · exact u.rng y h0 h1
  · rw [hs y h0]
    split
    · rename_i e
      rw [e]; exact hrz
    · exact u.root y h0 h1
  · rw [hs y h0]
    split
    · rename_i e
      intro q
      rw [e] at q
      rw [q] at hdd
      exact absurd hdd (Nat.lt_irrefl _)
    · exact u.top y h0 h1
  · rw [hs y h0]
    split
    · rename_i e
      rw [e]
      intro _
      exact hdd
    · exact u.down y h0 h1
  · obtain ⟨a0, a1, a2⟩ := u.rr y h0 h1
    refine ⟨a0, a1, ?_⟩
    rw [hs _ a0]
    split
    · rename_i e
      rw [e] at a2
      exact absurd a2 hne
    · exact a2
/-- two roots made one: b's under a's -/
theorem UF.join {n : Int} {ls : List Int} {r : Int → Int} {d : Int → Nat} (u : UF n ls r d) {a b : Int} (a0 : 0 ≤ a) (a1 : a < n) (b0 : 0 ≤ b) (b1 : b < n) : ∃ d', UF n (ls.set (r b).toNat (r a)) (rstep r (a, b)) d' := by
  have hl := u.len
  obtain ⟨p0, p1, p2⟩ := u.rr a a0 a1
  obtain ⟨q0, q1, q2⟩ := u.rr b b0 b1
  have rra : r (r a) = r a := u.top _ p0 p1 p2
  have rrb : r (r b) = r b := u.top _ q0 q1 q2
  have hs : ∀ y, 0 ≤ y → hat (ls.set (r b).toNat (r a)) y = if y = r b then r a else hat ls y := fun y h => hat_set q0 (by omega) h
  by_cases same : r a = r b
  · -- nothing changes
    have hh : ∀ y, 0 ≤ y → hat (ls.set (r b).toNat (r a)) y = hat ls y := fun y h => by
      rw [hs y h]
      split
      · rename_i e
        rw [e, q2, same]
      · rfl
    have hr : rstep r (a, b) = r := by
      funext y
      unfold rstep
      split
      · rename_i e
        rw [e]; exact same
      · rfl
    rw [hr]
    exact ⟨d, by rw [List.length_set]; exact hl, fun y h0 h1 => by rw [hh y h0]; exact u.rng y h0 h1, fun y h0 h1 => by rw [hh y h0]; exact u.root y h0 h1, fun y h0 h1 => by rw [hh y h0]; exact u.top y h0 h1, fun y h0 h1 => by rw [hh y h0]; exact u.down y h0 h1, fun y h0 h1 => by
      obtain ⟨x0, x1, x2⟩ := u.rr y h0 h1
      exact ⟨x0, x1, by rw [hh _ x0]; exact x2⟩⟩
  · refine ⟨fun y => if r y = r b then d y + d (r a) + 1 else d y, by rw [List.length_set]; exact hl, fun y h0 h1 => ?_, fun y h0 h1 => ?_, fun y h0 h1 => ?_, fun y h0 h1 => ?_, fun y h0 h1 => ?_⟩
    · rw [hs y h0]
      split
      · exact ⟨p0, p1⟩
      · exact u.rng y h0 h1
    · rw [hs y h0]
      have ry := u.root y h0 h1
      unfold rstep
      show (if r (if y = r b then r a else hat ls y) = r b then r a else r (if y = r b then r a else hat ls y)) = if r y = r b then r a else r y
      split
      · rename_i e
        rw [e, rra, rrb, if_neg same, if_pos rfl]
      · rw [ry]
    · rw [hs y h0]
      split
      · rename_i e
        intro q
        exact absurd (q.trans e) same
      · rename_i e
        intro q
        have := u.top y h0 h1 q
        unfold rstep
        show (if r y = r b then r a else r y) = y
        rw [this, if_neg e]
    · rw [hs y h0]
      have ry := u.root y h0 h1
      split
      · rename_i e
        intro _
        show (if r (r a) = r b then d (r a) + d (r a) + 1 else d (r a)) < if r y = r b then d y + d (r a) + 1 else d y
        rw [rra, if_neg same, e, rrb, if_pos rfl]
        omega
      · rename_i e
        intro q
        have := u.down y h0 h1 q
        show (if r (hat ls y) = r b then d (hat ls y) + d (r a) + 1 else d (hat ls y)) < if r y = r b then d y + d (r a) + 1 else d y
        rw [ry]
        split <;> omega
    · obtain ⟨x0, x1, x2⟩ := u.rr y h0 h1
      unfold rstep
      show 0 ≤ (if r y = r b then r a else r y) ∧ (if r y = r b then r a else r y) < n ∧ hat (ls.set (r b).toNat (r a)) (if r y = r b then r a else r y) = if r y = r b then r a else r y
      split
      · refine ⟨p0, p1, ?_⟩
        rw [hs _ p0, if_neg same]
        exact p2
      · rename_i e
        refine ⟨x0, x1, ?_⟩
        rw [hs _ x0, if_neg e]
        exact x2
theorem UF.start {n : Int} (h : 0 ≤ n) : UF n (upTo n) (fun x => x) (fun _ => 0) :=
  ⟨by rw [upTo_length]; omega, fun x h0 h1 => by rw [hat_upTo h0 h1]; exact ⟨h0, h1⟩, fun x h0 h1 => by rw [hat_upTo h0 h1], fun x _ _ _ => rfl, fun x h0 h1 q => absurd (hat_upTo h0 h1) q, fun x h0 h1 => ⟨h0, h1, hat_upTo h0 h1⟩⟩
theorem hat_at {ls : List Int} {x : Int} (h0 : 0 ≤ x) (h1 : x < ls.length) : atI (ls.map V.int) x = some (.int (hat ls x)) := by
  obtain ⟨v, _, hv, e⟩ := at_int h0 h1
  rw [e]
  unfold hat
  rw [List.getD_eq_getElem?_getD, hv]
  rfl
end FF
namespace FF
open PySem PySem.Spec PyProof.Rows L2
variable [LT]
/-! ### ties picked by their numbers -/
def pick (ts : List (Int × Int)) (ms : List Int) : List (Int × Int) := ms.map fun m => ts.getD m.toNat (0, 0)
theorem pick_append (ts : List (Int × Int)) (ms ks : List Int) : pick ts (ms ++ ks) = pick ts ms ++ pick ts ks := List.map_append
theorem pick_length (ts : List (Int × Int)) (ms : List Int) : (pick ts ms).length = ms.length := List.length_map ..
theorem getD_at {ts : List (Int × Int)} {m : Int} (h0 : 0 ≤ m) (h1 : m < ts.length) : ts[m.toNat]? = some (ts.getD m.toNat (0, 0)) := by
  have hx : m.toNat < ts.length := by omega
  rw [List.getD_eq_getElem?_getD, List.getElem?_eq_getElem hx]
  rfl
/-- the k-th of some ties, with its object -/
theorem Ties.at_ {H : Hp} {rs : List V} {ts : List (Int × Int)} (h : Ties H rs ts) {m : Int} (h0 : 0 ≤ m) (h1 : m < ts.length) : ∃ q, atI rs m = some (.ref q) ∧ H q = some (.tup [.int (ts.getD m.toNat (0, 0)).1, .int (ts.getD m.toNat (0, 0)).2]) := by
  have hx : m.toNat < rs.length := by rw [h.length]; omega
  obtain ⟨t, q, e1, e2, e3⟩ := h.get (List.getElem?_eq_getElem hx)
  rw [getD_at h0 h1] at e1
  cases e1
  refine ⟨q, ?_, e3⟩
  have e : ((m.toNat : Nat) : Int) = m := by omega
  have z := atI_nat (xs := rs) (j := m.toNat) ((List.getElem?_eq_getElem hx).trans (congrArg some e2))
  rw [e] at z
  exact z
def foldR (r : Int → Int) (ts : List (Int × Int)) : Int → Int := ts.foldl rstep r
theorem ringlessF_split : ∀ (us : List (Int × Int)) (r : Int → Int) (ws : List (Int × Int)), ringlessF r us = true → ringlessF r (us ++ ws) = ringlessF (foldR r us) ws
  | [], _, _, _ => rfl
  | t :: us, r, ws, h => by
    unfold ringlessF at h
    by_cases e : r t.1 = r t.2
    · rw [if_pos e] at h
      cases h
    · rw [if_neg e] at h
      show (if r t.1 = r t.2 then false else ringlessF (rstep r t) (us ++ ws)) = _
      rw [if_neg e]
      exact ringlessF_split us _ ws h
theorem ringlessF_bad : ∀ (us : List (Int × Int)) (r : Int → Int) (ws : List (Int × Int)), ringlessF r us = false → ringlessF r (us ++ ws) = false
  | [], _, _, h => by cases h
  | t :: us, r, ws, h => by
    unfold ringlessF at h
    by_cases e : r t.1 = r t.2
    · show (if r t.1 = r t.2 then false else ringlessF (rstep r t) (us ++ ws)) = _
      rw [if_pos e]
    · rw [if_neg e] at h
      show (if r t.1 = r t.2 then false else ringlessF (rstep r t) (us ++ ws)) = _
      rw [if_neg e]
      exact ringlessF_bad us _ ws h
theorem foldR_snoc (r : Int → Int) (us : List (Int × Int)) (t : Int × Int) : foldR r (us ++ [t]) = rstep (foldR r us) t := by
  unfold foldR
  rw [List.foldl_append]
  rfl
/-- one tie more -/
theorem ringlessF_more {us : List (Int × Int)} {r : Int → Int} (h : ringlessF r us = true) (t : Int × Int) : ringlessF r (us ++ [t]) = !decide (foldR r us t.1 = foldR r us t.2) := by
  rw [ringlessF_split us r _ h]
  show (if foldR r us t.1 = foldR r us t.2 then false else true) = _
  by_cases e : foldR r us t.1 = foldR r us t.2
  · rw [if_pos e, decide_eq_true e]
    rfl
  · rw [if_neg e, decide_eq_false e]
    rfl
theorem headsF_snoc (hs : List Int) (us : List (Int × Int)) (t : Int × Int) : headsF hs (us ++ [t]) = hstep (headsF hs us) t := by
  unfold headsF
  rw [List.foldl_append]
  rfl
theorem headsF_length (hs : List Int) : ∀ ts : List (Int × Int), (headsF hs ts).length = hs.length := fun ts => by
  induction ts generalizing hs with
  | nil => rfl
  | cons t ts ih =>
    show (headsF (hstep hs t) ts).length = _
    rw [ih]
    unfold hstep
    rw [List.length_map]
/-! ### rings -/
theorem upd_id {H : Hp} {a : Addr} {o : HO} (h : H a = some o) : upd H a o = H := by
  funext b
  by_cases e : b = a
  · rw [e, upd_same, h]
  · rw [upd_ne e]
theorem rgV_up (n : Int) : rgV 0 n = (upTo n).map V.int := rgV_ints n
theorem decide_int (a b : Int) : decide (V.int a = V.int b) = decide (a = b) := by
  by_cases z : a = b
  · rw [decide_eq_true z, decide_eq_true (congrArg V.int z)]
  · rw [decide_eq_false z, decide_eq_false fun h => z (V.int.inj h)]
theorem take_next {α : Type} {xs : List α} {i : Nat} {x : α} (h : xs[i]? = some x) : xs.take (i + 1) = xs.take i ++ [x] := by
  rw [List.take_add_one, h]
  rfl
theorem take_rest {α : Type} {xs : List α} {i : Nat} {x : α} (h : xs[i]? = some x) : xs = xs.take i ++ [x] ++ xs.drop (i + 1) := by
  rw [← take_next h, List.take_append_drop]
theorem Kx.put {S : Addr → Prop} {H H1 : Hp} {p : Addr} {o : HO} (k : Kx S H H1) (h : H p = none) : Kx S H (upd H1 p o) := k.over h
/-- ties picked from the row of a web -/
theorem Ties.pick1 {H : Hp} {ts : List (Int × Int)} {qs : List V} {ms : List Int} {m : Int} {q : Addr} (h : Ties H qs (pick ts ms)) (hq : H q = some (.tup [.int (ts.getD m.toNat (0, 0)).1, .int (ts.getD m.toNat (0, 0)).2])) : Ties H (qs ++ [.ref q]) (pick ts (ms ++ [m])) := by
  rw [pick_append]
  exact h.append (Ties.one hq)
theorem upTo_snoc (n : Nat) : upTo ((n : Int) + 1) = upTo n ++ [(n : Int)] := by
  unfold upTo
  rw [show ((n : Int) + 1).toNat = n + 1 by omega, show ((n : Int)).toNat = n by omega, List.range_succ, List.map_append]
  rfl
theorem mem_upTo {n x : Int} (h : x ∈ upTo n) : 0 ≤ x ∧ x < n := by
  unfold upTo at h
  obtain ⟨j, hj, rfl⟩ := List.mem_map.mp h
  have := List.mem_range.mp hj
  omega
def but (g : Int) (ms : List Int) : List Int := ms.filter fun i => !decide (i = g)
/-! ### rows of ties' numbers -/
def IsRow (H : Hp) (m : Nat) (x : V) : Prop := ∃ (a : Addr) (ms : List Int), x = .ref a ∧ H a = some (.tup (ms.map V.int)) ∧ ms.length ≤ 1000 ∧ ∀ y ∈ ms, 0 ≤ y ∧ y < (m : Int)
theorem IsRow.mono {H H' : Hp} {m : Nat} {x : V} (h : IsRow H m x) (k : ∀ q xs, H q = some (.tup xs) → H' q = some (.tup xs)) : IsRow H' m x := by
  obtain ⟨a, ms, e, h1, h2⟩ := h
  exact ⟨a, ms, e, k _ _ h1, h2⟩
theorem IsRow.ke {H H' : Hp} {m : Nat} {x : V} (h : IsRow H m x) (k : Ke H H') : IsRow H' m x := h.mono fun _ _ => k.tup
theorem IsRow.dk {H H' : Hp} {p : Addr} {m : Nat} {x : V} (h : IsRow H m x) (k : Dk p H H') (d : Deck H p) : IsRow H' m x := h.mono fun _ _ => k.tup d
theorem IsRow.new {H : Hp} {p : Addr} {o : HO} {m : Nat} {x : V} (h : IsRow H m x) (k : H p = none) : IsRow (upd H p o) m x := h.mono fun _ _ => tup_new k
theorem IsRow.put {H : Hp} {p : Addr} {o : HO} {ys : List V} {m : Nat} {x : V} (h : IsRow H m x) (k : H p = some (.lst ys)) : IsRow (upd H p o) m x := h.mono fun q xs e => by rw [upd_ne (ne_of e k (fun z => nomatch z))]; exact e
structure Rows (H : Hp) (m : Nat) (xs : List V) : Prop where
  all : ∀ x ∈ xs, IsRow H m x
theorem Rows.nil {H : Hp} {m : Nat} : Rows H m [] := ⟨fun _ z => nomatch z⟩
theorem Rows.app {H : Hp} {m : Nat} {xs ys : List V} (a : Rows H m xs) (b : Rows H m ys) : Rows H m (xs ++ ys) := ⟨fun x hx => (List.mem_append.mp hx).elim (a.all x) (b.all x)⟩
theorem Rows.one {H : Hp} {m : Nat} {x : V} (a : IsRow H m x) : Rows H m [x] := ⟨fun y hy => by rw [List.mem_singleton.mp hy]; exact a⟩
theorem Rows.ke {H H' : Hp} {m : Nat} {xs : List V} (h : Rows H m xs) (k : Ke H H') : Rows H' m xs := ⟨fun x hx => (h.all x hx).ke k⟩
theorem Rows.dk {H H' : Hp} {p : Addr} {m : Nat} {xs : List V} (h : Rows H m xs) (k : Dk p H H') (d : Deck H p) : Rows H' m xs := ⟨fun x hx => (h.all x hx).dk k d⟩
theorem Rows.new {H : Hp} {p : Addr} {o : HO} {m : Nat} {xs : List V} (h : Rows H m xs) (k : H p = none) : Rows (upd H p o) m xs := ⟨fun x hx => (h.all x hx).new k⟩
theorem Rows.put {H : Hp} {p : Addr} {o : HO} {ys : List V} {m : Nat} {xs : List V} (h : Rows H m xs) (k : H p = some (.lst ys)) : Rows (upd H p o) m xs := ⟨fun x hx => (h.all x hx).put k⟩
theorem Rows.take {H : Hp} {m n : Nat} {xs : List V} (h : Rows H m xs) : Rows H m (xs.take n) := ⟨fun x hx => h.all x (List.mem_of_mem_take hx)⟩
end FF
namespace FF
open PySem PySem.Spec PyProof.Rows L2
variable [LT]
/-! ### enumerate of a tuple -/
section
variable {P : Program} {w : World} {A : Around} {E : Value → Shared → Prop} {s : Shared}
theorem drawsTup (calm : A.handled = none) (j t : Addr) (far : t ≠ j) (vs : Array Value) : Draws P w A j [j, t] vs.size (fun k v => vs[k]? = some v) (fun k h => h.IsTupleIter j t k ∧ h.IsTuple t vs) where
  live _ _ z := by
    obtain ⟨⟨o, ho, _⟩, _⟩ := z
    exact ⟨o, ho⟩
  frame _ _ _ z k := by
    obtain ⟨⟨o1, a1, r1⟩, o2, a2, r2⟩ := z
    exact ⟨⟨o1, k j List.mem_cons_self o1 a1, r1⟩, o2, k t (List.mem_cons_of_mem _ List.mem_cons_self) o2 a2, r2⟩
  item k u Q F hk z fin := RZ.nextOf_tuple_item z.1 z.2 (x := vs[k]) (Array.getElem?_eq_getElem hk) fun h2 a1 a2 => fin _ h2 u.toks (Array.getElem?_eq_getElem hk) ⟨a1, z.2.extBut a2.extBut far⟩ a2
  done u Q F z fin := RZ.nextOf_tuple_end calm z.1 z.2 (by simp) fin
/-- nothing is left -/
theorem drawnOut (calm : A.handled = none) (j t : Addr) (vs : Array Value) (i : Nat) (hn : vs[i]? = none) : Draws P w A j [j, t] i (fun _ _ => False) (fun k h => k = i ∧ h.IsTupleIter j t i ∧ h.IsTuple t vs) where
  live _ _ z := by
    obtain ⟨_, ⟨o, ho, _⟩, _⟩ := z
    exact ⟨o, ho⟩
  frame _ _ _ z k := by
    obtain ⟨e, ⟨o1, a1, r1⟩, o2, a2, r2⟩ := z
    exact ⟨e, ⟨o1, k j List.mem_cons_self o1 a1, r1⟩, o2, k t (List.mem_cons_of_mem _ List.mem_cons_self) o2 a2, r2⟩
  item k u Q F hk z fin := absurd z.1 (Nat.ne_of_lt hk)
  done u Q F z fin := RZ.nextOf_tuple_end calm z.2.1 z.2.2 hn fin
abbrev itObj (t : Addr) : Obj := { cls := .type "tuple_iterator", data := .fields #[.ref t, .int 0 0] }
abbrev enObj (j : Addr) : Obj :=
  { cls := .type "enumerate",
    data := .fields #[.none, .bool false, .ref j, rawInt 0, .none, .none] }
set_option maxHeartbeats 1000000 in
theorem enumMadeT (t : Addr) (vs : Array Value) (k : Nat) (dd : Option Addr) (ss : Array (Option Value)) : Meets (Builtin.«enumerate.__new__» ⟨[.type "enumerate", .ref t], []⟩) (fun _ R s =>
      s.heap.get? t = some { cls := .type "tuple", dict := dd, data := .seq vs k, slots := ss } ∧
      R (.ok (.ret (.ref (s.heap.push (itObj t)).objs.size))) { s with heap := (s.heap.push (itObj t)).push (enObj s.heap.objs.size) }) :=
  .of_wp fun P w A R s h => by
    obtain ⟨h0, g0, d0, t0, s0⟩ := s
    obtain ⟨ht, h⟩ := h
    have isub := sub_enumerate
    have hT : Heap.IsTuple (Shared.heap ⟨h0, g0, d0, t0, s0⟩) t vs := ⟨_, ht, rfl, k, rfl⟩
    wp_walk using wpAny_loadPart' ht
    refine wpAny_stack_any fun _ => wpAny_pure ?_
    split
    · rename_i cc _ _ _ _ _
      cases (cc == Value.type "enumerate")
      · wp_walk using wpAny_loadPart' ht, wpAny_pyIter_tuple hT
        exact ⟨_, rfl, h⟩
      · wp_walk using wpAny_loadPart' ht, wpAny_pyIter_tuple hT
        exact ⟨_, rfl, h⟩
    · wp_walk using wpAny_loadPart' ht, wpAny_pyIter_tuple hT
      exact ⟨_, rfl, h⟩
theorem callEnumT {t : Addr} {vs : Array Value} {Q : Value → Shared → Prop} (hT : s.heap.IsTuple t vs)
    (fin : ∀ h2, IsEnum h2 (s.heap.objs.size + 1) s.heap.objs.size 0 .none → h2.IsTupleIter s.heap.objs.size t 0 → (∀ b o, s.heap.get? b = some o → h2.get? b = some o) →
      Q (.ref (s.heap.objs.size + 1)) { s with heap := h2 }) : wpAny (model P w) A (call (.type "enumerate") [.ref t]) Q E s := by
  obtain ⟨⟨c1, c2, c3, c4⟩, ht, e1, k, e2⟩ := hT
  have e1 : c1 = .type "tuple" := e1
  have e2 : c3 = .seq vs k := e2
  subst e1 e2
  refine callType_new F.called_enumerate (by decide) (F.typeCall_enumerate_1 _) (F.newCall_enumerate_1 _) (fun z => F.args_object_init_2 z _)
    F.entry_enumerate_new (enumMadeT t vs k c2 c4) ⟨ht, ?_⟩
  have size1 : (s.heap.push (itObj t)).objs.size = s.heap.objs.size + 1 := Heap.size_push ..
  show _ ∧ _
  rw [size1]
  have he : IsEnum ((s.heap.push (itObj t)).push (enObj s.heap.objs.size)) (s.heap.objs.size + 1) s.heap.objs.size 0 .none := by
    have z := Heap.get?_push_size (s.heap.push (itObj t)) (o := enObj s.heap.objs.size) rfl
    rw [size1] at z
    exact z
  exact ⟨⟨_, he, rfl⟩, fin _ he ⟨_, Heap.get?_push_of_some _ (Heap.get?_push_size _ rfl), rfl, rfl⟩ fun b o z => Heap.get?_push_of_some _ (Heap.get?_push_of_some _ z)⟩
end
/-- the tuple at a, each item in a new pair behind its number -/
def IteT (K : PySem.W.Frag) (a : Addr) : It where
  go i H := ∃ (xs : List V) (x : V), SqT K H a xs ∧ xs[i]? = some x
  yld i H v H' := ∃ t x, v = .ref t ∧ H t = none ∧ H' = upd H t (.tup [.int (i : Nat), x]) ∧ ∀ xs, SqT K H a xs → xs[i]? = some x
  stop i H := ∃ xs : List V, SqT K H a xs ∧ xs.length ≤ i
theorem turnEnumT {P : Program} {w : World} {K : PySem.W.Frag} {elts : List Expr} {kk : Nat} {tpos : Pos} (a e j : Addr) :
    Turn P w K (.Tuple elts kk tpos) (IteT K a) [e, j] e (fun i h => (∃ v, IsEnum h e j ((i : Nat) : Int) v) ∧ h.IsTupleIter j a i ∧ e ≠ j) where
  mem := List.mem_cons_self
  obj := by
    intro i h st b hb
    obtain ⟨⟨v, he⟩, ⟨o, ho, hc, hd⟩, _⟩ := st
    rcases List.mem_cons.mp hb with rfl | hb
    · exact ⟨_, he, fun _ z => nomatch z⟩
    · rw [List.mem_singleton.mp hb]
      exact ⟨o, ho, fun _ z => by rw [hd] at z; cases z⟩
  keep := by
    intro i h h' st k
    obtain ⟨⟨v, he⟩, ⟨o, ho, r⟩, far⟩ := st
    exact ⟨⟨v, k e List.mem_cons_self _ he⟩, ⟨o, k j (List.mem_cons_of_mem _ List.mem_cons_self) o ho, r⟩, far⟩
  item := by
    intro X hP hw hK calm i pins s σ H E I hf st hg
    subst hP hw hK
    obtain ⟨⟨v, he⟩, hj, far⟩ := st
    obtain ⟨xs, x, hq, hx⟩ := hg
    obtain ⟨its, rv, hp, _⟩ := I.tuple hq
    obtain ⟨u, hu, ru⟩ := rv.get hx
    have le : e < s.heap.objs.size := Heap.lt_size he
    have lj : j < s.heap.objs.size := by
      obtain ⟨_, z, _⟩ := hj
      exact Heap.lt_size z
    have hne : a ≠ j := by
      intro z
      obtain ⟨o1, a1, b1, _⟩ := hj
      obtain ⟨o2, a2, b2, _⟩ := hp
      rw [z, a1] at a2
      cases a2
      rw [b1] at b2
      exact absurd (Value.type.inj b2) (by decide)
    have hea : e ∉ [j, a] := by
      intro z
      rcases List.mem_cons.mp z with z | z
      · exact far z
      · have z := List.mem_singleton.mp z
        obtain ⟨o2, a2, b2, _⟩ := hp
        rw [← z, he] at a2
        cases a2
        exact absurd (Value.type.inj b2) (by decide)
    have hi : i < its.toArray.size := by
      rw [List.size_toArray]
      exact (List.getElem?_eq_some_iff.mp hu).1
    refine wpAny_pyNext_enum_itemD (drawsTup (A := X.A.in1) (I.ok.hd calm) j a hne its.toArray) he ⟨hj, hp⟩ hi far hea fun y h2 tk hy ho st2 hT2 _ hk => ?_
    have ey : y = u := by
      have hy : its.toArray[i]? = some y := hy
      rw [List.getElem?_toArray, hu] at hy
      exact (Option.some.inj hy).symm
    subst ey
    refine ⟨_, rfl, wpAny_letOwnedTupleGo_enum (s := { s with heap := h2, toks := tk + 1 }) ho fun h3 he3 sb => ?_⟩
    have hT3 : h3.get? s.heap.objs.size = some { cls := .type "tuple", data := .seq #[.int i tk, y] } := (sb.2 _ (Nat.ne_of_gt le)).trans hT2
    have fresh : ObjOk X.prog X.w (upd H s.heap.objs.size (.tup [.int (i : Nat), x])) h3 s.heap.objs.size (.tup [.int (i : Nat), x]) :=
      ⟨by show 2 ≤ sizeLine; decide, [.int i tk, y], .cons ⟨_, rfl⟩ (.cons ru .nil), ⟨_, hT3, rfl, _, rfl⟩⟩
    have I3 : Inv X pins σ (upd H s.heap.objs.size (.tup [.int (i : Nat), x])) { s with heap := h3, toks := tk + 1 } :=
      I.turnedNew (ch := [e, j]) (fun b ob hb z => (sb.2 b (fun r => hb (by simp [r]))).trans (hk b ob (fun r => hb (by simp [r])) (fun r => hb (by simp [r])) z)) hf (Nat.le_refl _) fresh
    refine ⟨.ref s.heap.objs.size, _, I3, rfl, ⟨_, x, rfl, I.hok.fresh (Nat.le_refl _), rfl, fun ys hy => by rw [I.tuple_inj hy hq]; exact hx⟩, ⟨⟨y, ?_⟩, ?_, far⟩, fun b hb => ?_⟩
    · rw [show ((i + 1 : Nat) : Int) = (i : Int) + 1 by omega]
      exact he3
    · obtain ⟨⟨o, z, r⟩, _⟩ := st2
      exact ⟨o, (sb.2 j (Ne.symm far)).trans z, r⟩
    · have lb : b < s.heap.objs.size := by
        rcases List.mem_cons.mp hb with z | z
        · rw [z]; exact le
        · rw [List.mem_singleton.mp z]; exact lj
      rw [upd_ne (Nat.ne_of_lt lb)]
      exact (hf b hb).1
  done := by
    intro X hP hw hK calm i pins s σ H E I hf st hg
    subst hP hw hK
    obtain ⟨⟨v, he⟩, hj, far⟩ := st
    obtain ⟨xs, hq, hx⟩ := hg
    obtain ⟨its, rv, hp, _⟩ := I.tuple hq
    obtain ⟨f0, f1, f2, f3, f4, f5⟩ := hf j (List.mem_cons_of_mem _ List.mem_cons_self)
    have hl := rv.length
    have hn : its.toArray[i]? = none := by
      rw [List.getElem?_toArray]
      exact List.getElem?_eq_none (by omega)
    exact wpAny_pyNext_enum_endD (drawnOut (A := X.A.in1) (I.ok.hd calm) j a its.toArray i hn) he ⟨rfl, hj, hp⟩ fun h2 eb => ⟨rfl, I.turned (t' := s.toks) (fun b o hb z => eb b o hb z) f0 f1 f3 f4 f5⟩
  self := by
    intro A i s Q E st h
    obtain ⟨⟨_, he⟩, _⟩ := st
    exact wpAny_pyIter_enum he h
def iEnumT (K : PySem.W.Frag) (ta : TA) : TI := fun σ H R => ta σ H fun vs G => ∃ a xs, vs = [.ref a] ∧ SqT K G a xs ∧ R (IteT K a) G
theorem pi_enumT {X : Cx} {K : PySem.W.Frag} {e : Expr} {ta : TA} {p1 p2 p3 : Pos} {elts : List Expr} {kk : Nat} (hg : Gl X "enumerate") (hm : X.mg "enumerate" = none) (ha : PA X [e] ta)
    (hK : X.K = K := by rfl) (star : starEach [e] X.env = [(false, eval e X.env)] := by rfl) : PI X (.Tuple elts kk p3) (.Call (.Name "enumerate" p1) [e] [] p2) (iEnumT K ta) := by
  subst hK
  constructor
  intro pins s σ H R I h
  refine Call_ (ld_blt I hg hm boot_enumerate (PyProof.Rows.callWith_type1 (thn (ha.run p2 pins s σ H _ I h) fun us t ⟨vs, G, J, rr, qq⟩ => ?_) star rfl))
  obtain ⟨a, xs, rfl, hq, q⟩ := qq
  cases rr with
  | cons r rr =>
    cases rr
    cases r
    obtain ⟨its, rv, hp, _⟩ := J.tuple hq
    refine callEnumT (show t.heap.IsTuple a its.toArray from hp) fun h2 he hj hk => wpAny_pyIter_enum he ?_
    have J2 : Inv X pins σ G { t with heap := h2 } := J.kept (t' := t.toks) hk
    refine ⟨t.heap.objs.size + 1, [t.heap.objs.size + 1, t.heap.objs.size], _, _, G, rfl, J2, turnEnumT a (t.heap.objs.size + 1) t.heap.objs.size, ⟨⟨.none, he⟩, hj, Nat.succ_ne_self _⟩, fun b hb => ?_, q⟩
    have lb : t.heap.objs.size ≤ b := by
      rcases List.mem_cons.mp hb with z | z
      · rw [z]; exact Nat.le_succ _
      · rw [List.mem_singleton.mp z]; exact Nat.le_refl _
    exact J.fpOk lb (J.hok.fresh lb)
theorem walk_enumT {K : PySem.W.Frag} {a : Addr} {xs : List V} : Walk (IteT K a) xs.length (fun H => SqT K H a xs) (YPair (fun i => some (.int (i : Nat))) (fun i => xs[i]?)) where
  goes i H hi q := ⟨xs, xs[i], q, List.getElem?_eq_getElem hi⟩
  stops H q := ⟨xs, q, Nat.le_refl _⟩
  yields i H v H' _ q y := by
    obtain ⟨t, x, h1, h2, h3, h4⟩ := y
    exact ⟨t, .int (i : Nat), x, h1, h2, h3, rfl, h4 xs q⟩
/-- zip of two tuples -/
theorem walk_zipT {K : PySem.W.Frag} {a b : Addr} {xs ys : List V} {n : Nat} (hn : n = min xs.length ys.length) : Walk (RZ.ItzT K a b) n (fun H => SqT K H a xs ∧ SqT K H b ys) (YPair (fun i => xs[i]?) (fun i => ys[i]?)) where
  goes i H hi q := ⟨xs, ys, xs[i]'(by omega), ys[i]'(by omega), q.1, q.2, List.getElem?_eq_getElem (by omega), List.getElem?_eq_getElem (by omega)⟩
  stops H q := ⟨xs, ys, q.1, q.2, by omega⟩
  yields i H v H' _ q y := by
    obtain ⟨t, x, z, h1, h2, h3, h4, h5⟩ := y
    exact ⟨t, x, z, h1, h2, h3, h4 xs q.1, h5 ys q.2⟩
section
variable {X : Cx}
end
end FF
namespace FF
open PySem PySem.Spec PyProof.Rows L2
variable [LT]
/-! ### what is walked: a list or a tuple -/
section
variable {X : Cx}
def iSeq (K : PySem.W.Frag) (tl : TE) : TI := fun σ H R => tl σ H fun x G => ∃ a xs, x = .ref a ∧ ((SqL K G a xs ∧ R (Itl K a) G) ∨ (SqT K G a xs ∧ R (Itt K a) G))
theorem pi_seq {K : PySem.W.Frag} {tg l : Expr} {tl : TE} (hl : PE X l tl) (hK : X.K = K := by rfl) : PI X tg l (iSeq K tl) := by
  subst hK
  constructor
  intro pins s σ H R I h
  refine thn (hl.run pins s σ H _ I h) fun v t ⟨x, G, J, rx, a, xs, ex, hq⟩ => ?_
  subst ex
  cases rx
  rcases hq with ⟨hq, q⟩ | ⟨hq, q⟩
  · obtain ⟨its, _, p, _⟩ := J.list hq
    exact wpAny_pyIter_list p.isList (pi_one (tk := t.toks) J _ (turn_list a _) ⟨_, Heap.get?_push_size _ rfl, rfl, rfl⟩ q)
  · obtain ⟨its, _, p, _⟩ := J.tuple hq
    exact wpAny_pyIter_tuple (show t.heap.IsTuple a its.toArray from p) (pi_one (tk := t.toks) J _ (turn_tuple a _) ⟨_, Heap.get?_push_size _ rfl, rfl, rfl⟩ q)
end
section
variable {α : Type} {g : TG} {tt : TT} {te : TE} {vs : List Nat} {σ0 : L2.St} {yl : α → V → Hp → (α → Hp → Prop) → Prop} {dn : α → Hp → Prop} {H0 : Hp} {a0 : α} {J : It} {n : Nat} {Gd : Hp → Prop} {Y : Nat → Hp → V → Hp → Prop}
theorem gx_it (w : Walk J n Gd Y) (Pv : Nat → α → Hp → Prop) (h0 : Pv 0 a0 H0) (hG : ∀ i a H, i ≤ n → Pv i a H → Gd H)
    (hs : ∀ (i : Nat) x a H H', i < n → Pv i a H → Y i H x H' → g x σ0 H' fun σ2 H2 => wipe σ2 vs = σ0 ∧ tt σ2 H2 fun b H3 => if b = true then te σ2 H3 fun y H4 => yl a y H4 (Pv (i + 1)) else Pv (i + 1) a H3) (hd : ∀ a H, Pv n a H → dn a H) :
    ∃ W : Nat → Nat → α → Hp → Prop, (∃ m, W 0 m a0 H0) ∧ GxT J g tt te vs σ0 W yl dn := by
  refine ⟨fun i m a H => m = n - i ∧ i ≤ n ∧ Pv i a H, ⟨_, rfl, Nat.zero_le _, h0⟩, ?_⟩
  rintro i m a H ⟨rfl, hi, p⟩
  have ok := hG i a H hi p
  by_cases hlt : i < n
  · exact .inr ⟨w.goes i H hlt ok, Pv (i + 1), fun a' H' p' => ⟨n - (i + 1), by omega, rfl, hlt, p'⟩, fun x H1 y => hs i x a H H1 hlt p (w.yields i H x H1 hlt ok y)⟩
  · have e : i = n := by omega
    subst e
    exact .inl ⟨w.stops H ok, hd a H p⟩
end
section
variable {g : TG} {tt : TT} {te : TE} {vs : List Nat} {σ0 : L2.St} {yl : Unit → V → Hp → (Unit → Hp → Prop) → Prop} {dn : Unit → Hp → Prop} {H0 : Hp} {J : It} {n : Nat} {Gd : Hp → Prop} {Y : Nat → Hp → V → Hp → Prop}
theorem gx_all (w : Walk J n Gd Y) (Pv : Nat → Hp → Prop) (h0 : Pv 0 H0) (hG : ∀ i H, i ≤ n → Pv i H → Gd H)
    (hs : ∀ (i : Nat) x H H', i < n → Pv i H → Y i H x H' → g x σ0 H' fun σ2 H2 => wipe σ2 vs = σ0 ∧ tt σ2 H2 fun b H3 => if b = true then te σ2 H3 fun y H4 => yl () y H4 (fun _ => Pv (i + 1)) else Pv (i + 1) H3) (hd : ∀ H, Pv n H → dn () H) :
    ∃ W : Nat → Nat → Hp → Prop, (∃ m, W 0 m H0) ∧ GxT (α := Unit) J g tt te vs σ0 (fun i m _ H => W i m H) yl dn := by
  obtain ⟨W, ⟨m, hm⟩, hW⟩ := gx_it (a0 := ()) w (fun i _ H => Pv i H) h0 (fun i _ H => hG i H) (fun i x _ H H' => hs i x H H') (fun _ H => hd H)
  exact ⟨fun i m H => W i m () H, ⟨m, hm⟩, hW⟩
end
end FF
namespace FF
open PySem PySem.Spec PyProof.Rows L2
variable [LT]
/-! ### ties by layers -/
def layerOf (ts : List (Int × Int)) (ws : List V) (f : Int) : List (Int × Int) := ((ts.zip ws).filter fun p => decide (p.2 = V.int f)).map Prod.fst
theorem layerOf_snoc {ts : List (Int × Int)} {ws : List V} (h : ts.length = ws.length) (t : Int × Int) (x : V) (f : Int) :
    layerOf (ts ++ [t]) (ws ++ [x]) f = layerOf ts ws f ++ if x = V.int f then [t] else [] := by
  unfold layerOf
  rw [List.zip_append h, List.filter_append, List.map_append]
  congr 1
  show (List.filter (fun p => decide (p.2 = V.int f)) [(t, x)]).map Prod.fst = _
  by_cases e : x = V.int f
  · rw [List.filter_cons_of_pos (p := fun p : (Int × Int) × V => decide (p.2 = V.int f)) (a := (t, x)) (decide_eq_true e), if_pos e]
    rfl
  · rw [List.filter_cons_of_neg (by rw [decide_eq_false e]; decide), if_neg e]
    rfl
theorem layerOf_length (ts : List (Int × Int)) (ws : List V) (f : Int) : (layerOf ts ws f).length ≤ ts.length := by
  unfold layerOf
  rw [List.length_map]
  refine Nat.le_trans (List.length_filter_le _ _) ?_
  rw [List.length_zip]
  omega
theorem layerOf_ok {n : Int} {ts : List (Int × Int)} (ok : TOk n ts) (ws : List V) (f : Int) : TOk n (layerOf ts ws f) := fun t ht => by
  unfold layerOf at ht
  obtain ⟨⟨u, x⟩, hp, rfl⟩ := List.mem_map.mp ht
  exact ok _ (List.of_mem_zip (List.mem_filter.mp hp).1).1
theorem layerOf_none {ts : List (Int × Int)} {ws : List V} {f : Int} (h : ∀ x ∈ ws, x ≠ V.int f) : layerOf ts ws f = [] := by
  unfold layerOf
  rw [List.filter_eq_nil_iff.mpr fun p hp => ?_]
  · rfl
  · obtain ⟨u, x⟩ := p
    rw [decide_eq_false (h x (List.of_mem_zip hp).2)]
    decide
/-! ### first fit -/
def freeB (ts : List (Int × Int)) (ws : List V) (t : Int × Int) (f : Int) : Bool := ringlessF (fun x => x) (layerOf ts ws f ++ [t])
inductive FFat (k : Int) (ts : List (Int × Int)) (ws : List V) (t : Int × Int) : V → Prop where
  | out : (∀ f, 0 ≤ f → f < k → freeB ts ws t f = false) → FFat k ts ws t .non
  | at_ {f : Int} : 0 ≤ f → f < k → freeB ts ws t f = true → (∀ g, 0 ≤ g → g < f → freeB ts ws t g = false) → FFat k ts ws t (.int f)
structure FF (k : Int) (ts : List (Int × Int)) (ws : List V) : Prop where
  len : ws.length = ts.length
  each : ∀ i t x, ts[i]? = some t → ws[i]? = some x → FFat k (ts.take i) (ws.take i) t x
theorem FF.nil {k : Int} : FF k [] [] := ⟨rfl, fun i t x h => by simp at h⟩
theorem FF.snoc {k : Int} {ts : List (Int × Int)} {ws : List V} {t : Int × Int} {x : V} (h : FF k ts ws) (hx : FFat k ts ws t x) : FF k (ts ++ [t]) (ws ++ [x]) := by
  have hl := h.len
  refine ⟨by rw [List.length_append, List.length_append, hl]; rfl, fun i u y hu hy => ?_⟩
  by_cases e : i < ts.length
  · rw [List.getElem?_append_left e] at hu
    rw [List.getElem?_append_left (by omega)] at hy
    rw [List.take_append_of_le_length (by omega), List.take_append_of_le_length (by omega)]
    exact h.each i u y hu hy
  · have hi : i = ts.length := by
      have := (List.getElem?_eq_some_iff.mp hu).1
      rw [List.length_append] at this
      have : i < ts.length + 1 := this
      omega
    subst hi
    rw [List.getElem?_append_right (Nat.le_refl _), Nat.sub_self] at hu
    rw [← hl, List.getElem?_append_right (Nat.le_refl _), Nat.sub_self] at hy
    cases hu
    cases hy
    rw [List.take_left, ← hl, List.take_left]
    exact hx
theorem FF.low {k : Int} {ts : List (Int × Int)} {ws : List V} (h : FF k ts ws) (hne : ∀ t ∈ ts, t.1 ≠ t.2) : ∀ (i : Nat) (f : Int), ws[i]? = some (V.int f) → f ≤ (i : Int) := by
  intro i
  induction i using Nat.strongRecOn with
  | _ i ih =>
    intro f hf
    have hi := (List.getElem?_eq_some_iff.mp hf).1
    have hit : i < ts.length := by rw [← h.len]; exact hi
    have ht := List.getElem?_eq_getElem hit
    have hx := h.each i _ _ ht hf
    by_cases c : f ≤ (i : Int)
    · exact c
    · cases hx with
      | at_ h0 h1 h2 h3 =>
        have z := h3 (i : Int) (by omega) (by omega)
        unfold freeB at z
        rw [layerOf_none] at z
        · have hn := hne _ (List.getElem_mem hit)
          show f ≤ _
          rw [List.nil_append] at z
          exact absurd z (by
            show ¬ (if _ = _ then false else true) = false
            rw [if_neg hn]
            decide)
        · intro x hx e
          obtain ⟨j, hj⟩ := List.getElem?_of_mem hx
          have hjl := (List.getElem?_eq_some_iff.mp hj).1
          rw [List.length_take] at hjl
          rw [List.getElem?_take_of_lt (by omega)] at hj
          rw [e] at hj
          have := ih j (by omega) _ hj
          omega
/-- forest i is empty when the i-th tie comes -/
theorem FF.empty {k : Int} {ts : List (Int × Int)} {ws : List V} (h : FF k ts ws) (hne : ∀ t ∈ ts, t.1 ≠ t.2) {i : Nat} {t : Int × Int} (ht : ts[i]? = some t) : freeB (ts.take i) (ws.take i) t (i : Int) = true := by
  have hi := (List.getElem?_eq_some_iff.mp ht).1
  unfold freeB
  rw [layerOf_none]
  · rw [List.nil_append]
    show (if _ = _ then false else true) = true
    rw [if_neg (hne _ (List.mem_of_getElem? ht))]
  · intro x hx e
    obtain ⟨j, hj⟩ := List.getElem?_of_mem hx
    have hjl := (List.getElem?_eq_some_iff.mp hj).1
    rw [List.length_take] at hjl
    rw [List.getElem?_take_of_lt (by omega), e] at hj
    have := h.low hne j _ hj
    omega
theorem first_of {p : Int → Bool} {f m : Int} (h0 : 0 ≤ f) (h1 : f < m) (hp : p f = true) (hq : ∀ g, 0 ≤ g → g < f → p g = false) : ∃ r, (upTo m).filter p = f :: r := by
  have e : upTo m = upTo f ++ (f :: (upTo m).drop (f.toNat + 1)) := by
    have hf : (upTo m)[f.toNat]? = some f := by
      unfold upTo
      rw [List.getElem?_map, List.getElem?_range (by omega)]
      show some ((f.toNat : Nat) : Int) = some f
      rw [show ((f.toNat : Nat) : Int) = f by omega]
    have ht : (upTo m).take f.toNat = upTo f := by
      unfold upTo
      rw [← List.map_take, List.take_range, Nat.min_eq_left (by omega)]
    have z := take_rest hf
    rw [ht, List.append_assoc] at z
    exact z
  rw [e, List.filter_append, List.filter_eq_nil_iff.mpr fun g hg => by rw [hq g (mem_upTo hg).1 (mem_upTo hg).2]; decide, List.filter_cons_of_pos hp]
  exact ⟨_, rfl⟩
theorem FF.head {k : Int} {ts : List (Int × Int)} {ws : List V} (h : FF k ts ws) (hne : ∀ t ∈ ts, t.1 ≠ t.2) {i : Nat} {t : Int × Int} {x : V} (ht : ts[i]? = some t) (hx : ws[i]? = some x) :
    ∃ r, (((upTo (min k ((i : Int) + 1))).filter (freeB (ts.take i) (ws.take i) t)).map V.int) ++ [V.non] = x :: r := by
  have c := h.each i t x ht hx
  cases c with
  | out z =>
    rw [List.filter_eq_nil_iff.mpr fun g hg => by rw [z g (mem_upTo hg).1 (by have := (mem_upTo hg).2; omega)]; decide]
    exact ⟨[], rfl⟩
  | @at_ f h0 h1 h2 h3 =>
    have l := h.low hne i f hx
    obtain ⟨r, e⟩ := first_of (m := min k ((i : Int) + 1)) h0 (by omega) h2 h3
    rw [e]
    exact ⟨_, rfl⟩
theorem FF.ints {k : Int} {ts : List (Int × Int)} {ws : List V} (h : FF k ts ws) (hne : ∀ t ∈ ts, t.1 ≠ t.2) (hk : (ts.length : Int) ≤ k) : ∃ ns : List Int, ws = ns.map V.int := by
  refine ⟨ws.map fun v => match v with | .int i => i | _ => 0, ?_⟩
  rw [List.map_map]
  conv => lhs; rw [← List.map_id ws]
  refine List.map_congr_left fun x hx => ?_
  obtain ⟨i, hi⟩ := List.getElem?_of_mem hx
  have hil := (List.getElem?_eq_some_iff.mp hi).1
  have hit : i < ts.length := by rw [← h.len]; exact hil
  have ht := List.getElem?_eq_getElem hit
  have c := h.each i _ x ht hi
  cases c with
  | out z =>
    have e := h.empty hne ht
    rw [z _ (by omega) (by omega)] at e
    cases e
  | at_ => rfl
/-- numbers of forests, or none -/
def IsO (x : V) : Prop := x = .non ∨ ∃ i, x = .int i
theorem FF.isO {k : Int} {ts : List (Int × Int)} {ws : List V} (h : FF k ts ws) : ∀ x ∈ ws, IsO x := fun x hx => by
  obtain ⟨i, hi⟩ := List.getElem?_of_mem hx
  have hil := (List.getElem?_eq_some_iff.mp hi).1
  have hit : i < ts.length := by rw [← h.len]; exact hil
  have c := h.each i _ x (List.getElem?_eq_getElem hit) hi
  cases c with
  | out => exact .inl rfl
  | at_ => exact .inr ⟨_, rfl⟩
theorem IsO.scal {x : V} (h : IsO x) (i : Int) : scal x (.int i) = true := by
  rcases h with rfl | ⟨j, rfl⟩ <;> rfl
/-! ### several forests of leaders -/
theorem Ke.and {S : Addr → Prop} {H H1 H2 : Hp} (a : Ke H H1) (b : Kx S H1 H2) (h : ∀ x, S x → H x = none) : Ke H H2 := by
  refine ⟨fun c o e n q => b.at_ c o (a.at_ c o e n q) n fun z => ?_, fun c t => b.tab c (a.tab c t), fun c e => a.dom c (b.dom c e), fun c ps l q e => b.lam c ps l (fun z => ?_) (a.lam c ps l (fun z => z) e)⟩
  · rw [h c z] at e
    cases e
  · rw [h c z] at e
    cases e
theorem freeB_eq {ts : List (Int × Int)} {ws : List V} {t : Int × Int} {f : Int} (h : ringlessF (fun x => x) (layerOf ts ws f) = true) : freeB ts ws t f = !decide (foldR (fun x => x) (layerOf ts ws f) t.1 = foldR (fun x => x) (layerOf ts ws f) t.2) := ringlessF_more h t
end FF
namespace FF
open PySem PySem.Spec PyProof.Rows L2
variable [LT]
/-! ### the numbers of the ties of a forest -/
def numsFrom (f : Int) : Nat → List V → List Int
  | _, [] => []
  | i, x :: r => (if x = V.int f then [(i : Int)] else []) ++ numsFrom f (i + 1) r
theorem nums_snoc (f : Int) : ∀ (i : Nat) (ws : List V) (x : V), numsFrom f i (ws ++ [x]) = numsFrom f i ws ++ if x = V.int f then [((i + ws.length : Nat) : Int)] else []
  | i, [], x => by
    show (if x = V.int f then [(i : Int)] else []) ++ [] = [] ++ _
    rw [List.append_nil, List.nil_append]
    rfl
  | i, y :: ws, x => by
    show _ ++ numsFrom f (i + 1) (ws ++ [x]) = _
    rw [nums_snoc f (i + 1) ws x, ← List.append_assoc]
    show _ = ((if y = V.int f then [(i : Int)] else []) ++ numsFrom f (i + 1) ws) ++ _
    rw [List.length_cons, show i + 1 + ws.length = i + (ws.length + 1) by omega]
theorem nums_bd (f : Int) : ∀ (i : Nat) (ws : List V), ∀ m ∈ numsFrom f i ws, (i : Int) ≤ m ∧ m < ((i + ws.length : Nat) : Int)
  | i, [], m, h => nomatch h
  | i, y :: ws, m, h => by
    rcases List.mem_append.mp h with h | h
    · by_cases e : y = V.int f
      · rw [if_pos e] at h
        rw [List.mem_singleton.mp h, List.length_cons]
        omega
      · rw [if_neg e] at h
        cases h
    · have := nums_bd f (i + 1) ws m h
      rw [List.length_cons]
      omega
theorem nums_length (f : Int) : ∀ (i : Nat) (ws : List V), (numsFrom f i ws).length ≤ ws.length
  | _, [] => Nat.le_refl _
  | i, y :: ws => by
    have := nums_length f (i + 1) ws
    show ((if y = V.int f then [(i : Int)] else []) ++ numsFrom f (i + 1) ws).length ≤ ws.length + 1
    rw [List.length_append]
    split
    · show 1 + _ ≤ _
      omega
    · show 0 + _ ≤ _
      omega
theorem pick_nums (f : Int) : ∀ (pre ts : List (Int × Int)) (ws : List V), ts.length = ws.length → pick (pre ++ ts) (numsFrom f pre.length ws) = layerOf ts ws f
  | pre, [], [], _ => rfl
  | pre, t :: ts, x :: ws, h => by
    have ih := pick_nums f (pre ++ [t]) ts ws (by simpa using h)
    rw [List.append_assoc, List.length_append] at ih
    show pick (pre ++ t :: ts) ((if x = V.int f then [(pre.length : Int)] else []) ++ numsFrom f (pre.length + 1) ws) = _
    rw [pick_append]
    have e1 : pick (pre ++ t :: ts) (numsFrom f (pre.length + 1) ws) = layerOf ts ws f := ih
    rw [e1]
    have e2 : layerOf (t :: ts) (x :: ws) f = (if x = V.int f then [t] else []) ++ layerOf ts ws f := by
      unfold layerOf
      rw [List.zip_cons_cons]
      by_cases e : x = V.int f
      · rw [List.filter_cons_of_pos (p := fun p : (Int × Int) × V => decide (p.2 = V.int f)) (a := (t, x)) (decide_eq_true e), if_pos e]
        rfl
      · rw [List.filter_cons_of_neg (p := fun p : (Int × Int) × V => decide (p.2 = V.int f)) (a := (t, x)) (by rw [decide_eq_false e]; decide), if_neg e]
        rfl
    rw [e2]
    congr 1
    by_cases e : x = V.int f
    · rw [if_pos e, if_pos e]
      show [(pre ++ t :: ts).getD ((pre.length : Int)).toNat (0, 0)] = [t]
      rw [show ((pre.length : Int)).toNat = pre.length by omega, List.getD_eq_getElem?_getD, List.getElem?_append_right (Nat.le_refl _), Nat.sub_self]
      rfl
    · rw [if_neg e, if_neg e]
      rfl
/-! ### ties by forest, in a dict -/
def kvF (fl : List (Int × Addr)) : List (Key × V) := fl.map fun p => (Sum.inl p.1, V.ref p.2)
structure Byf (H : Hp) (ws : List V) (fl : List (Int × Addr)) : Prop where
  nd : (fl.map Prod.fst).Nodup
  na : (fl.map Prod.snd).Nodup
  each : ∀ p ∈ fl, H p.2 = some (.lst ((numsFrom p.1 0 ws).map V.int))
  mem : ∀ f, V.int f ∈ ws ↔ f ∈ fl.map Prod.fst
theorem Byf.ke {H H' : Hp} {ws : List V} {fl : List (Int × Addr)} (h : Byf H ws fl) (k : Ke H H') : Byf H' ws fl := ⟨h.nd, h.na, fun p hp => k.lst (h.each p hp), h.mem⟩
theorem val_in : ∀ {fl : List (Int × Addr)} {f : Int} {q : Addr}, (fl.map Prod.fst).Nodup → (f, q) ∈ fl → valV (kvF fl) (Sum.inl f) = some (.ref q)
  | p :: fl, f, q, nd, h => by
    rw [List.map_cons, List.nodup_cons] at nd
    rcases List.mem_cons.mp h with h | h
    · rw [← h]
      exact valV_pos rfl
    · have hne : p.1 ≠ f := fun z => nd.1 (z ▸ List.mem_map.mpr ⟨(f, q), h, rfl⟩)
      exact (valV_neg (p := (Sum.inl p.1, V.ref p.2)) (r := kvF fl) fun z => hne (Sum.inl.inj z)).trans (val_in nd.2 h)
theorem val_out {fl : List (Int × Addr)} {f : Int} (h : f ∉ fl.map Prod.fst) : valV (kvF fl) (Sum.inl f) = none := by
  unfold valV kvF
  rw [List.find?_eq_none.mpr fun x hx => ?_]
  · rfl
  · obtain ⟨p, hp, rfl⟩ := List.mem_map.mp hx
    rw [decide_eq_false fun z => h (List.mem_map.mpr ⟨p, hp, Sum.inl.inj z⟩)]
    decide
theorem put_out {fl : List (Int × Addr)} {f : Int} {q : Addr} (h : f ∉ fl.map Prod.fst) : putK (kvF fl) (Sum.inl f) (.ref q) = kvF (fl ++ [(f, q)]) := by
  unfold putK
  rw [valV_any, val_out h]
  show kvF fl ++ [(Sum.inl f, V.ref q)] = kvF (fl ++ [(f, q)])
  unfold kvF
  rw [List.map_append]
  rfl
theorem kvF_length (fl : List (Int × Addr)) : (kvF fl).length = fl.length := List.length_map ..
theorem Byf.skip {H : Hp} {ws : List V} {fl : List (Int × Addr)} (h : Byf H ws fl) : Byf H (ws ++ [.non]) fl :=
  ⟨h.nd, h.na, fun p hp => by rw [nums_snoc, if_neg (fun z => nomatch z), List.append_nil]; exact h.each p hp, fun f => by
    rw [List.mem_append, h.mem f]
    refine ⟨fun z => z.elim id fun z => ?_, Or.inl⟩
    exact nomatch List.mem_singleton.mp z⟩
/-- one more of a forest that has some -/
theorem Byf.more {H : Hp} {ws : List V} {fl : List (Int × Addr)} (h : Byf H ws fl) {f : Int} {q : Addr} (hq : (f, q) ∈ fl) : Byf (upd H q (.lst ((numsFrom f 0 ws).map V.int ++ [.int ws.length]))) (ws ++ [.int f]) fl := by
  refine ⟨h.nd, h.na, fun p hp => ?_, fun g => ?_⟩
  · rw [nums_snoc]
    by_cases e : p.1 = f
    · have e2 : p = (f, q) := by
        have n := h.nd
        have a1 := val_in n (show (p.1, p.2) ∈ fl from hp)
        have a2 := val_in n hq
        rw [e, a2] at a1
        have := Option.some.inj a1
        cases this
        exact Prod.ext e rfl
      rw [e2, upd_same, if_pos rfl, List.map_append, Nat.zero_add]
      rfl
    · have hne : p.2 ≠ q := fun z => by
        have n := h.na
        obtain ⟨i, hi⟩ := List.getElem?_of_mem hp
        obtain ⟨j, hj⟩ := List.getElem?_of_mem hq
        obtain ⟨li, ei⟩ := List.getElem?_eq_some_iff.mp hi
        obtain ⟨lj, ej⟩ := List.getElem?_eq_some_iff.mp hj
        have z2 : (fl.map Prod.snd)[i]'(by rw [List.length_map]; exact li) = (fl.map Prod.snd)[j]'(by rw [List.length_map]; exact lj) := by
          rw [List.getElem_map, List.getElem_map, ei, ej]
          exact z
        have ij := (List.getElem_inj n).mp z2
        subst ij
        rw [ei] at ej
        exact e (congrArg Prod.fst ej)
      rw [upd_ne hne, if_neg (fun z => e (V.int.inj z).symm), List.append_nil]
      exact h.each p hp
  · rw [List.mem_append, h.mem g]
    refine ⟨fun z => z.elim id fun z => ?_, .inl⟩
    have := V.int.inj (List.mem_singleton.mp z)
    rw [this]
    exact List.mem_map.mpr ⟨_, hq, rfl⟩
theorem nums_none {f : Int} : ∀ {i : Nat} {ws : List V}, V.int f ∉ ws → numsFrom f i ws = []
  | _, [], _ => rfl
  | i, x :: ws, h => by
    show (if x = V.int f then [(i : Int)] else []) ++ numsFrom f (i + 1) ws = []
    rw [if_neg (show ¬ x = V.int f from fun z => h (z ▸ List.mem_cons_self)), nums_none fun z => h (List.mem_cons_of_mem _ z)]
    rfl
/-- the first of a forest -/
theorem Byf.first {H : Hp} {ws : List V} {fl : List (Int × Addr)} (h : Byf H ws fl) {f : Int} {q : Addr} (hf : f ∉ fl.map Prod.fst) (hq : q ∉ fl.map Prod.snd) : Byf (upd H q (.lst [.int ws.length])) (ws ++ [.int f]) (fl ++ [(f, q)]) := by
  refine ⟨?_, ?_, fun p hp => ?_, fun g => ?_⟩
  · rw [List.map_append, List.nodup_append]
    exact ⟨h.nd, by simp, fun x hx y hy => by rw [List.mem_singleton.mp hy]; exact fun (z : x = f) => hf (z ▸ hx)⟩
  · rw [List.map_append, List.nodup_append]
    exact ⟨h.na, by simp, fun x hx y hy => by rw [List.mem_singleton.mp hy]; exact fun (z : x = q) => hq (z ▸ hx)⟩
  · rw [nums_snoc]
    rcases List.mem_append.mp hp with hp | hp
    · have e1 : p.1 ≠ f := fun z => hf (z ▸ List.mem_map.mpr ⟨p, hp, rfl⟩)
      have e2 : p.2 ≠ q := fun z => hq (z ▸ List.mem_map.mpr ⟨p, hp, rfl⟩)
      rw [upd_ne e2, if_neg (fun z => e1 (V.int.inj z).symm), List.append_nil]
      exact h.each p hp
    · rw [List.mem_singleton.mp hp, upd_same, if_pos rfl, nums_none (fun z => hf ((h.mem f).mp z)), Nat.zero_add]
      rfl
  · rw [List.mem_append, h.mem g, List.map_append, List.mem_append]
    refine ⟨fun z => z.elim .inl fun z => .inr ?_, fun z => z.elim .inl fun z => .inr ?_⟩
    · rw [V.int.inj (List.mem_singleton.mp z)]
      exact List.mem_singleton.mpr rfl
    · rw [show g = f from List.mem_singleton.mp z]
      exact List.mem_singleton.mpr rfl
theorem Byf.off {H : Hp} {ws : List V} {fl : List (Int × Addr)} {d : Addr} {o : HO} (h : Byf H ws fl) (hd : d ∉ fl.map Prod.snd) : Byf (upd H d o) ws fl :=
  ⟨h.nd, h.na, fun p hp => by rw [upd_ne (show p.2 ≠ d from fun z => hd (z ▸ List.mem_map.mpr ⟨p, hp, rfl⟩))]; exact h.each p hp, h.mem⟩
end FF
namespace FF
open PySem PySem.Spec PyProof.Rows L2
variable [LT]
/-! ### layings -/
def okE (k : Int) (x : V) : Bool := match x with
  | .non => true
  | v => isNum v 0 (k - 1)
def treeB (ts : List (Int × Int)) (ws : List V) (x : V) : Bool := match x with
  | .int f => ringlessF (fun x => x) (layerOf ts ws f)
  | _ => true
def layO (ts : List (Int × Int)) (k : Int) : Option (List V) → Bool
  | none => false
  | some ws => (decide (ws.length = ts.length) && ws.all (okE k)) && ws.all (treeB ts ws)
theorem layO_good {ts : List (Int × Int)} {k : Int} {ws : List V} (hl : ws.length = ts.length) (ho : ∀ x ∈ ws, okE k x = true) (h : ∀ f, V.int f ∈ ws → ringlessF (fun x => x) (layerOf ts ws f) = true) : layO ts k (some ws) = true := by
  show ((decide (ws.length = ts.length) && ws.all (okE k)) && ws.all (treeB ts ws)) = true
  rw [decide_eq_true hl, List.all_eq_true.mpr ho, List.all_eq_true.mpr fun x hx => ?_]
  · rfl
  · cases x with
    | int f => exact h f hx
    | _ => rfl
end FF
namespace FF
open PySem PySem.Spec PyProof.Rows L2
variable [LT]
/-! ### what first fit tells is a laying -/
theorem FF.forest {k : Int} {ts : List (Int × Int)} {ws : List V} (h : FF k ts ws) (f : Int) : ringlessF (fun x => x) (layerOf ts ws f) = true := by
  have hl := h.len
  have z : ∀ i, i ≤ ts.length → ringlessF (fun x => x) (layerOf (ts.take i) (ws.take i) f) = true := by
    intro i
    induction i with
    | zero => intro _; rfl
    | succ i ih =>
      intro hi
      have h1 : ts[i]? = some ts[i] := List.getElem?_eq_getElem (by omega)
      have h2 : ws[i]? = some ws[i] := List.getElem?_eq_getElem (by omega)
      have c := h.each i _ _ h1 h2
      rw [take_next h1, take_next h2, layerOf_snoc (by rw [List.length_take, List.length_take]; omega)]
      by_cases e : ws[i] = V.int f
      · rw [if_pos e]
        rw [e] at c
        cases c with
        | at_ _ _ h3 _ => exact h3
      · rw [if_neg e, List.append_nil]
        exact ih (by omega)
  have := z ts.length (Nat.le_refl _)
  rw [List.take_length, ← hl, List.take_length] at this
  exact this
theorem okE_int {k f : Int} (h0 : 0 ≤ f) (h1 : f < k) : okE k (.int f) = true := by
  show (decide (0 ≤ f) && decide (f ≤ k - 1)) = true
  rw [decide_eq_true h0, decide_eq_true (by omega)]
  rfl
theorem FF.lay {k : Int} {ts : List (Int × Int)} {ws : List V} (h : FF k ts ws) : layO ts k (some ws) = true :=
  layO_good h.len (fun x hx => by
    obtain ⟨i, hi⟩ := List.getElem?_of_mem hx
    have hil := (List.getElem?_eq_some_iff.mp hi).1
    have hit : i < ts.length := by rw [← h.len]; exact hil
    have c := h.each i _ x (List.getElem?_eq_getElem hit) hi
    cases c with
    | out => rfl
    | at_ h0 h1 => exact okE_int h0 h1) fun f _ => h.forest f
theorem IsO.ty {H : Hp} {x : V} (h : IsO x) : ∃ n, TyN H x n := by
  rcases h with rfl | ⟨i, rfl⟩
  · exact ⟨_, .non⟩
  · exact ⟨_, .int i⟩
/-- a whole laying in m forests -/
structure Laid (ts : List (Int × Int)) (m : Int) (ws : List V) : Prop where
  len : ws.length = ts.length
  num : ∀ x ∈ ws, ∃ j : Int, x = .int j ∧ 0 ≤ j ∧ j < m
  tree : ∀ f, ringlessF (fun x => x) (layerOf ts ws f) = true
theorem Laid.isO {ts : List (Int × Int)} {m : Int} {ws : List V} (h : Laid ts m ws) : ∀ x ∈ ws, IsO x := fun x hx => by
  obtain ⟨j, e, _⟩ := h.num x hx
  exact .inr ⟨j, e⟩
/-- lists of ties by layers -/
structure Lays (H : Hp) (p : Addr) (fs : List Addr) (ws : List V) : Prop where
  at_ : H p = some (.lst (fs.map V.ref))
  nd : fs.Nodup
  out : p ∉ fs
  each : ∀ (j : Nat) q, fs[j]? = some q → H q = some (.lst ((numsFrom (j : Int) 0 ws).map V.int))
theorem Lays.kx {S : Addr → Prop} {H H' : Hp} {p : Addr} {fs : List Addr} {ws : List V} (h : Lays H p fs ws) (k : Kx S H H') (h1 : ¬ S p) (h2 : ∀ q ∈ fs, ¬ S q) : Lays H' p fs ws :=
  ⟨k.at_ _ _ h.at_ (fun _ z => nomatch z) h1, h.nd, h.out, fun j q hq => k.at_ _ _ (h.each j q hq) (fun _ z => nomatch z) (h2 q (List.mem_of_getElem? hq))⟩
theorem Lays.ke {H H' : Hp} {p : Addr} {fs : List Addr} {ws : List V} (h : Lays H p fs ws) (k : Ke H H') : Lays H' p fs ws := h.kx k (fun z => z) (fun _ _ z => z)
theorem Lays.off {H : Hp} {p q : Addr} {o : HO} {fs : List Addr} {ws : List V} (h : Lays H p fs ws) (h1 : q ≠ p) (h2 : q ∉ fs) : Lays (upd H q o) p fs ws :=
  ⟨by rw [upd_ne h1.symm]; exact h.at_, h.nd, h.out, fun j x hx => by rw [upd_ne (show x ≠ q from fun z => h2 (z ▸ List.mem_of_getElem? hx))]; exact h.each j x hx⟩
/-- one tie more in the layer f -/
theorem Lays.put {H : Hp} {p : Addr} {fs : List Addr} {ws : List V} (h : Lays H p fs ws) {f : Nat} {q : Addr} (hq : fs[f]? = some q) : Lays (upd H q (.lst ((numsFrom (f : Int) 0 ws).map V.int ++ [.int ws.length]))) p fs (ws ++ [.int (f : Int)]) := by
  have hm := List.mem_of_getElem? hq
  refine ⟨by rw [upd_ne (show p ≠ q from fun z => h.out (z ▸ hm))]; exact h.at_, h.nd, h.out, fun j x hx => ?_⟩
  rw [nums_snoc]
  by_cases e : j = f
  · subst e
    rw [hq] at hx
    cases hx
    rw [upd_same, if_pos rfl, List.map_append, Nat.zero_add]
    rfl
  · have hne : x ≠ q := fun z => by
      obtain ⟨l1, e1⟩ := List.getElem?_eq_some_iff.mp hq
      obtain ⟨l2, e2⟩ := List.getElem?_eq_some_iff.mp hx
      exact e ((List.getElem_inj h.nd).mp (e2.trans (z.trans e1.symm)))
    rw [upd_ne hne, if_neg (fun z => e (by have := V.int.inj z; omega)), List.append_nil]
    exact h.each j x hx
/-- a new empty layer -/
theorem Lays.more {H : Hp} {p q : Addr} {fs : List Addr} {ws : List V} (h : Lays H p fs ws) (hn : H q = none) (hw : ∀ x ∈ ws, ∃ j : Int, x = .int j ∧ 0 ≤ j ∧ j < fs.length) : Lays (upd (upd H q (.lst [])) p (.lst ((fs ++ [q]).map V.ref))) p (fs ++ [q]) ws := by
  have hqp : q ≠ p := (ne_of_none h.at_ hn).symm
  have hqf : q ∉ fs := fun z => by
    obtain ⟨j, hj⟩ := List.getElem?_of_mem z
    rw [h.each j q hj] at hn
    cases hn
  refine ⟨upd_same, ?_, ?_, fun j x hx => ?_⟩
  · rw [List.nodup_append]
    refine ⟨h.nd, by simp, fun x hx y hy => ?_⟩
    rw [List.mem_singleton.mp hy]
    exact fun z => hqf (z ▸ hx)
  · intro z
    rcases List.mem_append.mp z with z | z
    · exact h.out z
    · exact hqp (List.mem_singleton.mp z).symm
  · by_cases e : j < fs.length
    · rw [List.getElem?_append_left e] at hx
      have hxm := List.mem_of_getElem? hx
      rw [upd_ne (show x ≠ p from fun z => h.out (z ▸ hxm)), upd_ne (show x ≠ q from fun z => hqf (z ▸ hxm))]
      exact h.each j x hx
    · have hj : j = fs.length := by
        have := (List.getElem?_eq_some_iff.mp hx).1
        rw [List.length_append] at this
        have : j < fs.length + 1 := this
        omega
      subst hj
      rw [List.getElem?_append_right (Nat.le_refl _), Nat.sub_self] at hx
      cases hx
      rw [upd_ne hqp, upd_same, nums_none (fun z => ?_)]
      · rfl
      · obtain ⟨j, e1, e2, e3⟩ := hw _ z
        have := V.int.inj e1
        omega
theorem pick_pre {ts : List (Int × Int)} {i : Nat} {ms : List Int} (h : ∀ m ∈ ms, 0 ≤ m ∧ m < (i : Int)) (hi : i ≤ ts.length) : pick ts ms = pick (ts.take i) ms := by
  unfold pick
  refine List.map_congr_left fun m hm => ?_
  have := h m hm
  rw [List.getD_eq_getElem?_getD, List.getD_eq_getElem?_getD, List.getElem?_take_of_lt (by omega)]
theorem pick_layer {ts : List (Int × Int)} {i : Nat} {ws : List V} (hw : ws.length = i) (hi : i ≤ ts.length) (f : Int) : pick ts (numsFrom f 0 ws) = layerOf (ts.take i) ws f := by
  rw [pick_pre (i := i) (fun m hm => ?_) hi]
  · exact pick_nums f [] (ts.take i) ws (by rw [List.length_take]; omega)
  · have := nums_bd f 0 ws m hm
    omega
theorem Laid.snoc {ts : List (Int × Int)} {m m' : Int} {ws : List V} {t : Int × Int} {f : Int} (h : Laid ts m ws) (hm : m ≤ m') (f0 : 0 ≤ f) (f1 : f < m') (hf : freeB ts ws t f = true) : Laid (ts ++ [t]) m' (ws ++ [.int f]) := by
  have hl := h.len
  refine ⟨by rw [List.length_append, List.length_append, hl]; rfl, fun x hx => ?_, fun g => ?_⟩
  · rcases List.mem_append.mp hx with hx | hx
    · obtain ⟨j, e, h0, h1⟩ := h.num x hx
      exact ⟨j, e, h0, by omega⟩
    · exact ⟨f, List.mem_singleton.mp hx, f0, f1⟩
  · rw [layerOf_snoc hl.symm]
    by_cases e : V.int f = V.int g
    · rw [if_pos e]
      have := V.int.inj e
      subst this
      exact hf
    · rw [if_neg e, List.append_nil]
      exact h.tree g
theorem Laid.new_free {ts : List (Int × Int)} {m : Int} {ws : List V} {t : Int × Int} (h : Laid ts m ws) (ht : t.1 ≠ t.2) : freeB ts ws t m = true := by
  unfold freeB
  rw [layerOf_none]
  · rw [List.nil_append]
    show (if _ = _ then false else true) = true
    rw [if_neg ht]
  · intro x hx e
    obtain ⟨j, e2, _, h1⟩ := h.num x hx
    rw [e2] at e
    have := V.int.inj e
    omega
theorem Laid.lay {ts : List (Int × Int)} {m : Int} {ws : List V} (h : Laid ts m ws) : layO ts m (some ws) = true :=
  layO_good h.len (fun x hx => by
    obtain ⟨j, e, h0, h1⟩ := h.num x hx
    rw [e]
    exact okE_int h0 h1) fun f _ => h.tree f
/-- some entries left out -/
structure Less (zs ws : List V) : Prop where
  len : zs.length = ws.length
  each : ∀ (i : Nat) z x, zs[i]? = some z → ws[i]? = some x → z = x ∨ z = V.non
theorem Less.nil : Less [] [] := ⟨rfl, fun i z x h => by simp at h⟩
theorem Less.snoc {zs ws : List V} {z x : V} (h : Less zs ws) (hz : z = x ∨ z = V.non) : Less (zs ++ [z]) (ws ++ [x]) := by
  refine ⟨by rw [List.length_append, List.length_append, h.len]; rfl, fun i a b ha hb => ?_⟩
  by_cases e : i < zs.length
  · rw [List.getElem?_append_left e] at ha
    rw [List.getElem?_append_left (by rw [← h.len]; exact e)] at hb
    exact h.each i a b ha hb
  · have hi : i = zs.length := by
      have := (List.getElem?_eq_some_iff.mp ha).1
      rw [List.length_append] at this
      have : i < zs.length + 1 := this
      omega
    subst hi
    rw [List.getElem?_append_right (Nat.le_refl _), Nat.sub_self] at ha
    rw [h.len, List.getElem?_append_right (Nat.le_refl _), Nat.sub_self] at hb
    cases ha
    cases hb
    exact hz
theorem Less.isO {zs ws : List V} (h : Less zs ws) (ho : ∀ x ∈ ws, IsO x) : ∀ z ∈ zs, IsO z := fun z hz => by
  obtain ⟨i, hi⟩ := List.getElem?_of_mem hz
  have hil := (List.getElem?_eq_some_iff.mp hi).1
  have hx := List.getElem?_eq_getElem (l := ws) (i := i) (by rw [← h.len]; exact hil)
  rcases h.each i z _ hi hx with e | e
  · rw [e]
    exact ho _ (List.mem_of_getElem? hx)
  · exact .inl e
end FF
namespace FF
open PySem PySem.Spec PyProof.Rows L2
variable [LT]
/-! ### a tuple against the empty tuple -/
section
variable {X : Cx} {K : PySem.W.Frag}
end
/-! ### things of any kind, kept -/
theorem TyN.ke {H H' : Hp} {v : V} {n : String} (h : TyN H v n) (k : Ke H H') : TyN H' v n := by
  cases h with
  | non => exact .non
  | bl b => exact .bl b
  | int i => exact .int i
  | str z => exact .str z
  | lst h => exact .lst (k.lst h)
  | tup h => exact .tup (k.tup h)
  | dic h => exact .dic (k.at_ _ _ h (fun _ z => nomatch z) fun z => z)
theorem TyN.new {H : Hp} {p : Addr} {o : HO} {v : V} {n : String} (h : TyN H v n) (k : H p = none) : TyN (upd H p o) v n := h.ke (Ke.new k)
theorem TyN.put {H : Hp} {p : Addr} {xs ys : List V} {v : V} {n : String} (h : TyN H v n) (k : H p = some (.lst xs)) : TyN (upd H p (.lst ys)) v n := by
  cases h with
  | non => exact .non
  | bl b => exact .bl b
  | int i => exact .int i
  | str z => exact .str z
  | @lst a zs h =>
    by_cases e : a = p
    · exact .lst (xs := ys) (by rw [e]; exact upd_same)
    · exact .lst (by rw [upd_ne e]; exact h)
  | tup h => exact .tup (by rw [upd_ne (ne_of h k (fun z => nomatch z))]; exact h)
  | dic h => exact .dic (by rw [upd_ne (ne_of h k (fun z => nomatch z))]; exact h)
theorem TyN.dk {H H' : Hp} {p : Addr} {v : V} {n : String} (h : TyN H v n) (k : Dk p H H') (d : Deck H p) : TyN H' v n := by
  obtain ⟨ds, hp, _⟩ := d
  cases h with
  | non => exact .non
  | bl b => exact .bl b
  | int i => exact .int i
  | str z => exact .str z
  | @lst a zs h =>
    by_cases e : a = p
    · obtain ⟨ds', hp', _⟩ := k.d
      exact .lst (xs := ds'.map V.int) (by rw [e]; exact hp')
    · exact .lst (k.lst h e)
  | tup h => exact .tup (k.k.tup h (ne_of h hp (fun z => nomatch z)))
  | dic h => exact .dic (k.k.at_ _ _ h (fun _ z => nomatch z) (ne_of h hp (fun z => nomatch z)))
theorem Tpl.mono {H H' : Hp} {v : V} {o : Option (List V)} (h : Tpl H v o) (k : ∀ q xs, H q = some (.tup xs) → H' q = some (.tup xs)) (y : ∀ v n, TyN H v n → TyN H' v n) : Tpl H' v o := by
  cases h with
  | yes h hx => exact .yes (k _ _ h) fun x hm => (hx x hm).elim fun n hn => ⟨n, y _ _ hn⟩
  | no h hn => exact .no (y _ _ h) hn
theorem Tpl.ke {H H' : Hp} {v : V} {o : Option (List V)} (h : Tpl H v o) (k : Ke H H') : Tpl H' v o := h.mono (fun _ _ => k.tup) fun _ _ z => z.ke k
theorem Tpl.ty {H : Hp} {v : V} {o : Option (List V)} (h : Tpl H v o) : ∃ n, TyN H v n := by
  cases h with
  | yes h _ => exact ⟨_, .tup h⟩
  | no h _ => exact ⟨_, h⟩
end FF
namespace FF
open PySem PySem.Spec PyProof.Rows L2
variable [LT]
/-! ### t[::-1] of a tuple -/
section
variable {prog : Program} {w : World} {A : Around} {E : Value → Shared → Prop} {s : Shared}
end
section
variable {X : Cx}
end
theorem rgV_length (a b : Int) : (rgV a b).length = (b - a).toNat := by
  unfold rgV
  rw [List.length_map, List.length_range]
end FF
namespace FF
open PySem PySem.Spec PyProof.Rows L2
variable [LT]
/-! ### data: shapes and equality -/
structure Sh (k : Nat) (d : PyData) : Prop where
  lay : d.canLay0 = true
  dep : d.depth ≤ k
theorem Sh.shaped {k : Nat} {d : PyData} (h : Sh k d) (hk : k ≤ 64 := by decide) : SeqAt.shaped d = true := by
  unfold SeqAt.shaped
  rw [h.lay, decide_eq_true (Nat.le_trans h.dep hk)]
  rfl
theorem Sh.int {i : Int} : Sh 0 (.int i) := ⟨rfl, Nat.le_refl _⟩
theorem Sh.none : Sh 0 .none := ⟨rfl, Nat.le_refl _⟩
theorem Sh.bool {b : Bool} : Sh 0 (.bool b) := ⟨rfl, Nat.le_refl _⟩
theorem sh_all {k : Nat} : ∀ {ds : List PyData}, (∀ d ∈ ds, Sh k d) → PyData.canLayAll0 ds = true ∧ PyData.depthAll ds ≤ k
  | [], _ => ⟨rfl, Nat.zero_le _⟩
  | d :: r, h => by
    obtain ⟨h1, h2⟩ := sh_all (ds := r) fun x hx => h x (List.mem_cons_of_mem _ hx)
    have h3 := h d List.mem_cons_self
    refine ⟨?_, ?_⟩
    · show (d.canLay0 && PyData.canLayAll0 r) = true
      rw [h3.lay, h1]
      rfl
    · show max d.depth (PyData.depthAll r) ≤ k
      exact Nat.max_le.mpr ⟨h3.dep, h2⟩
theorem Sh.tup {k : Nat} {ds : List PyData} (h : ∀ d ∈ ds, Sh k d) : Sh (k + 1) (.tuple ds) := ⟨(sh_all h).1, Nat.succ_le_succ (sh_all h).2⟩
theorem Sh.lst {k : Nat} {ds : List PyData} (h : ∀ d ∈ ds, Sh k d) : Sh (k + 1) (.list ds) := ⟨(sh_all h).1, Nat.succ_le_succ (sh_all h).2⟩
theorem shaped_tints (ls : List Int) : SeqAt.shaped (.tuple (ls.map PyData.int)) = true := (Sh.tup (k := 0) fun d hd => by
  obtain ⟨x, _, rfl⟩ := List.mem_map.mp hd
  exact Sh.int).shaped
end FF
namespace FF
open PySem PySem.Spec PyProof.Rows L2
variable [LT]
/-! ### pieces -/
theorem upTo_mem {n x : Int} : x ∈ upTo n ↔ 0 ≤ x ∧ x < n := by
  refine ⟨mem_upTo, fun ⟨h0, h1⟩ => ?_⟩
  unfold upTo
  exact List.mem_map.mpr ⟨x.toNat, List.mem_range.mpr (by omega), by omega⟩
theorem upTo_up (n : Int) : (upTo n).Pairwise (· < ·) := by
  unfold upTo
  rw [List.pairwise_map]
  exact List.pairwise_lt_range.imp fun h => by omega
theorem nub_snoc (l : List Int) (a : Int) : nub (l ++ [a]) = step_dedup (nub l) a := by
  unfold nub
  rw [List.foldl_append]
  rfl
def least (g : Int → Int) (x : Int) : Bool := (upTo x).all fun y => !decide (g y = g x)
def mins (g : Int → Int) (n : Int) : List Int := (upTo n).filter (least g)
def piece (g : Int → Int) (n x : Int) : List Int := (upTo n).filter fun y => decide (g y = g x)
def piecesF (g : Int → Int) (n : Int) : List (List Int) := (mins g n).map (piece g n)
theorem least_iff {g : Int → Int} {x : Int} : least g x = true ↔ ∀ y, 0 ≤ y → y < x → g y ≠ g x := by
  unfold least
  rw [List.all_eq_true]
  refine ⟨fun h y h0 h1 e => ?_, fun h y hy => ?_⟩
  · have := h y (upTo_mem.mpr ⟨h0, h1⟩)
    rw [decide_eq_true e] at this
    cases this
  · have := h y (mem_upTo hy).1 (mem_upTo hy).2
    rw [decide_eq_false this]
    rfl
theorem nub_mins (g : Int → Int) : ∀ n : Nat, nub ((upTo n).map g) = (mins g n).map g
  | 0 => rfl
  | n + 1 => by
    have e : ((n + 1 : Nat) : Int) = (n : Int) + 1 := by omega
    have ih := nub_mins g n
    rw [e, upTo_snoc, List.map_append, List.map_cons, List.map_nil, nub_snoc]
    have em : mins g ((n : Int) + 1) = mins g n ++ if least g n = true then [(n : Int)] else [] := by
      unfold mins
      rw [upTo_snoc, List.filter_append]
      congr 1
      rw [List.filter_cons, List.filter_nil]
    rw [em]
    by_cases h : g n ∈ nub ((upTo n).map g)
    · have hl : ¬ least g n = true := fun z => by
        rw [mem_nub, List.mem_map] at h
        obtain ⟨y, hy, ey⟩ := h
        exact least_iff.mp z y (mem_upTo hy).1 (mem_upTo hy).2 ey
      rw [if_neg hl, List.append_nil, ← ih]
      unfold step_dedup
      rw [if_pos (by simpa using h)]
    · have hl : least g n = true := least_iff.mpr fun y h0 h1 e => h (by rw [mem_nub, List.mem_map]; exact ⟨y, upTo_mem.mpr ⟨h0, h1⟩, e⟩)
      rw [if_pos hl, List.map_append, ← ih]
      unfold step_dedup
      rw [if_neg (by simpa using h)]
      rfl
theorem mins_mem {g : Int → Int} {n x : Int} : x ∈ mins g n ↔ (0 ≤ x ∧ x < n) ∧ least g x = true := by
  unfold mins
  rw [List.mem_filter, upTo_mem]
/-- rising lists with the same members are one -/
theorem up_same : ∀ {l m : List Int}, l.Pairwise (· < ·) → m.Pairwise (· < ·) → (∀ x, x ∈ l ↔ x ∈ m) → l = m
  | [], [], _, _, _ => rfl
  | [], b :: s, _, _, h => by have := (h b).mpr List.mem_cons_self; cases this
  | a :: r, [], _, _, h => by have := (h a).mp List.mem_cons_self; cases this
  | a :: r, b :: s, hl, hm, h => by
    obtain ⟨l1, l2⟩ := List.pairwise_cons.mp hl
    obtain ⟨m1, m2⟩ := List.pairwise_cons.mp hm
    have e : a = b := by
      have h1 := (h a).mp List.mem_cons_self
      have h2 := (h b).mpr List.mem_cons_self
      rcases List.mem_cons.mp h1 with z | z
      · exact z
      · rcases List.mem_cons.mp h2 with y | y
        · exact y.symm
        · have := l1 b y
          have := m1 a z
          omega
    subst e
    congr 1
    refine up_same l2 m2 fun x => ⟨fun hx => ?_, fun hx => ?_⟩
    · rcases List.mem_cons.mp ((h x).mp (List.mem_cons_of_mem _ hx)) with z | z
      · have := l1 x hx
        omega
      · exact z
    · rcases List.mem_cons.mp ((h x).mpr (List.mem_cons_of_mem _ hx)) with z | z
      · have := m1 x hx
        omega
      · exact z
/-- tuples of ints -/
def Lots (H : Hp) (rs : List V) (pss : List (List Int)) : Prop := Paired (fun (r : V) (ls : List Int) => ∃ q, r = .ref q ∧ H q = some (.tup (ls.map V.int))) rs pss
theorem Lots.mono {H H' : Hp} {rs : List V} {pss : List (List Int)} (h : Lots H rs pss) (k : ∀ q xs, H q = some (.tup xs) → H' q = some (.tup xs)) : Lots H' rs pss := L2.Paired.mapP h fun _ _ ⟨q, e, z⟩ => ⟨q, e, k q _ z⟩
theorem Lots.ke {H H' : Hp} {rs : List V} {pss : List (List Int)} (h : Lots H rs pss) (k : Ke H H') : Lots H' rs pss := h.mono fun _ _ => k.tup
theorem Lots.new {H : Hp} {p : Addr} {o : HO} {rs : List V} {pss : List (List Int)} (h : Lots H rs pss) (k : H p = none) : Lots (upd H p o) rs pss := h.mono fun _ _ => tup_new k
theorem Lots.put {H : Hp} {p : Addr} {o : HO} {ys : List V} {rs : List V} {pss : List (List Int)} (h : Lots H rs pss) (k : H p = some (.lst ys)) : Lots (upd H p o) rs pss := h.mono fun q xs e => by rw [upd_ne (ne_of e k (fun z => nomatch z))]; exact e
theorem Lots.length {H : Hp} {rs : List V} {pss : List (List Int)} (h : Lots H rs pss) : rs.length = pss.length := Paired.length h
theorem Lots.append {H : Hp} : ∀ {rs qs : List V} {ps us : List (List Int)}, Lots H rs ps → Lots H qs us → Lots H (rs ++ qs) (ps ++ us)
  | _, _, _, _, .nil, b => b
  | _, _, _, _, .cons r t, b => .cons r (Lots.append t b)
theorem Lots.one {H : Hp} {q : Addr} {ls : List Int} (h : H q = some (.tup (ls.map V.int))) : Lots H [.ref q] [ls] := .cons ⟨q, rfl, h⟩ .nil
theorem Lots.get {H : Hp} : ∀ {rs : List V} {ps : List (List Int)} {i : Nat} {r : V}, Lots H rs ps → rs[i]? = some r → ∃ ls q, ps[i]? = some ls ∧ r = .ref q ∧ H q = some (.tup (ls.map V.int))
  | _, _, _, _, .nil, e => by simp at e
  | _, _, 0, _, .cons (b := t) ⟨q, e1, e2⟩ _, e => by simp at e; subst e; exact ⟨t, q, rfl, e1, e2⟩
  | _, _, i + 1, r, .cons _ t, e => by
    obtain ⟨u, q, h1, h2, h3⟩ := Lots.get (i := i) (r := r) t (by simpa using e)
    exact ⟨u, q, by simpa using h1, h2, h3⟩
theorem Lots.dp {K : PySem.W.Frag} {H : Hp} : ∀ {rs : List V} {ps : List (List Int)}, Lots H rs ps → DpAll K H rs (ps.map fun l => .tuple (l.map PyData.int))
  | _, _, .nil => .nil
  | _, _, .cons ⟨q, e, h⟩ t => by
    subst e
    exact .cons (.tup (sqT_of h) (dp_ints _)) (Lots.dp t)
theorem shaped_lots (ps : List (List Int)) : SeqAt.shaped (.tuple (ps.map fun l => .tuple (l.map PyData.int))) = true := (Sh.tup (k := 1) fun d hd => by
  obtain ⟨l, _, rfl⟩ := List.mem_map.mp hd
  exact Sh.tup fun d hd => by
    obtain ⟨x, _, rfl⟩ := List.mem_map.mp hd
    exact Sh.int).shaped
theorem eqv_lots (ps : List (List Int)) : PyData.eqv (.tuple (ps.map fun l => .tuple (l.map PyData.int))) (.tuple (ps.map fun l => .tuple (l.map PyData.int))) = true :=
  SeqAt.eqv_refl _ (SeqAt.canLay_of_shaped (shaped_lots ps))
theorem nums_upTo (r : Int → Int) (f : Int) : ∀ n : Nat, numsFrom f 0 ((upTo n).map fun x => V.int (r x)) = (upTo n).filter fun y => decide (r y = f)
  | 0 => rfl
  | n + 1 => by
    have e : ((n + 1 : Nat) : Int) = (n : Int) + 1 := by omega
    rw [e, upTo_snoc, List.map_append, List.map_cons, List.map_nil, nums_snoc, nums_upTo r f n, List.filter_append, List.length_map, upTo_length]
    congr 1
    by_cases c : r n = f
    · rw [if_pos (congrArg V.int c), List.filter_cons_of_pos (p := fun y => decide (r y = f)) (decide_eq_true c), List.filter_nil]
      congr 1
      omega
    · rw [if_neg (fun z => c (V.int.inj z)), List.filter_cons_of_neg (p := fun y => decide (r y = f)) (by rw [decide_eq_false c]; decide), List.filter_nil]
theorem pieces_keys (r : Int → Int) (n : Nat) {fs : List Int} (h : fs = nub ((upTo n).map r)) : fs.map (fun f => numsFrom f 0 ((upTo n).map fun x => V.int (r x))) = piecesF r n := by
  rw [h, nub_mins, List.map_map]
  unfold piecesF
  refine List.map_congr_left fun x _ => ?_
  exact nums_upTo r (r x) n
theorem pieces_len {g : Int → Int} {n : Int} : (piecesF g n).length ≤ n.toNat := by
  unfold piecesF mins
  rw [List.length_map]
  have := List.length_filter_le (least g) (upTo n)
  rw [upTo_length] at this
  exact this
end FF
namespace FF
open PySem PySem.Spec PyProof.Rows L2
variable [LT]
/-! ### max and set of tuples of ints -/
section
variable {X : Cx} {K : PySem.W.Frag}
end
end FF
namespace FF
open PySem PySem.Spec PyProof.Rows L2
variable [LT]
/-! ### ties between parts -/
def between (ps : List Int) (ts : List (Int × Int)) : Nat := (ts.filter fun t => !decide (hat ps t.1 = hat ps t.2)).length
theorem hat_get {ns : List Int} {i : Nat} {v : Int} (h : ns[i]? = some v) : hat ns (i : Int) = v := by
  unfold hat
  rw [List.getD_eq_getElem?_getD, show ((i : Int)).toNat = i by omega, h]
  rfl
/-! ### ties between and within are all -/
theorem inside_cons (ls : List Int) (t : Int × Int) (ts : List (Int × Int)) : inside ls (t :: ts) = (if (decide (t.1 ∈ ls) && decide (t.2 ∈ ls)) = true then 1 else 0) + inside ls ts := by
  unfold inside
  rw [List.filter_cons]
  split
  · rw [List.length_cons, Nat.add_comm]
  · rw [Nat.zero_add]
theorem sum_add {α : Type} (f g : α → Int) : ∀ l : List α, (l.map fun x => f x + g x).sum = (l.map f).sum + (l.map g).sum
  | [] => rfl
  | x :: r => by
    simp only [List.map_cons, List.sum_cons]
    rw [sum_add f g r]
    omega
theorem sum_one {m : Int} (g : Int → Int) : ∀ {l : List Int}, l.Nodup → m ∈ l → (∀ x ∈ l, x ≠ m → g x = 0) → (l.map g).sum = g m
  | x :: r, nd, hm, h0 => by
    obtain ⟨n1, n2⟩ := List.nodup_cons.mp nd
    rw [List.map_cons, List.sum_cons]
    by_cases e : x = m
    · subst e
      have : (r.map g).sum = 0 := by
        have hz : ∀ y ∈ r, g y = 0 := fun y hy => h0 y (List.mem_cons_of_mem _ hy) fun c => n1 (c ▸ hy)
        clear h0 nd n2 hm n1
        induction r with
        | nil => rfl
        | cons y r ih =>
          rw [List.map_cons, List.sum_cons, hz y List.mem_cons_self, ih fun z hz' => hz z (List.mem_cons_of_mem _ hz')]
          rfl
      omega
    · rcases List.mem_cons.mp hm with c | hm
      · exact absurd c.symm e
      · rw [h0 x List.mem_cons_self e, sum_one g n2 hm fun y hy => h0 y (List.mem_cons_of_mem _ hy)]
        omega
theorem sum_zero {α : Type} (g : α → Int) : ∀ {l : List α}, (∀ x ∈ l, g x = 0) → (l.map g).sum = 0
  | [], _ => rfl
  | x :: r, h => by
    rw [List.map_cons, List.sum_cons, h x List.mem_cons_self, sum_zero g fun y hy => h y (List.mem_cons_of_mem _ hy)]
    rfl
/-- ties join: both ends have one root -/
theorem rstep_keep {r : Int → Int} {t : Int × Int} {x y : Int} (h : r x = r y) : rstep r t x = rstep r t y := by
  unfold rstep
  rw [h]
theorem foldR_keep : ∀ {ts : List (Int × Int)} {r : Int → Int} {x y : Int}, r x = r y → foldR r ts x = foldR r ts y
  | [], _, _, _, h => h
  | t :: ts, r, _, _, h => foldR_keep (ts := ts) (r := rstep r t) (rstep_keep h)
theorem foldR_tie : ∀ {ts : List (Int × Int)} {r : Int → Int} {t : Int × Int}, t ∈ ts → foldR r ts t.1 = foldR r ts t.2
  | u :: ts, r, t, h => by
    rcases List.mem_cons.mp h with rfl | h
    · refine foldR_keep (ts := ts) (r := rstep r t) ?_
      unfold rstep
      rw [if_pos rfl]
      by_cases c : r t.1 = r t.2
      · rw [if_pos c]
      · rw [if_neg c]
    · exact foldR_tie (ts := ts) (r := rstep r u) h
theorem pieces_has {g : Int → Int} {n x : Int} (x0 : 0 ≤ x) (x1 : x < n) : ∃ l ∈ piecesF g n, x ∈ l := by
  have : ∃ y, (0 ≤ y ∧ y ≤ x) ∧ g y = g x ∧ least g y = true := by
    have key : ∀ m : Nat, (m : Int) ≤ x → g m = g x → ∃ y, (0 ≤ y ∧ y ≤ x) ∧ g y = g x ∧ least g y = true := by
      intro m
      induction m using Nat.strongRecOn with
      | _ m ih =>
        intro hm he
        by_cases c : least g (m : Int) = true
        · exact ⟨m, ⟨by omega, hm⟩, he, c⟩
        · have : ∃ y : Int, 0 ≤ y ∧ y < m ∧ g y = g m := Classical.byContradiction fun z => c (least_iff.mpr fun y y0 y1 e => z ⟨y, y0, y1, e⟩)
          obtain ⟨y, y0, y1, ye⟩ := this
          obtain ⟨k, rfl⟩ : ∃ k : Nat, y = k := ⟨y.toNat, by omega⟩
          exact ih k (by omega) (by omega) (ye.trans he)
    obtain ⟨k, rfl⟩ : ∃ k : Nat, x = k := ⟨x.toNat, by omega⟩
    exact key k (by omega) rfl
  obtain ⟨y, ⟨y0, y1⟩, ye, yl⟩ := this
  refine ⟨piece g n y, List.mem_map.mpr ⟨y, mins_mem.mpr ⟨⟨y0, by omega⟩, yl⟩, rfl⟩, ?_⟩
  unfold piece
  rw [List.mem_filter, upTo_mem]
  exact ⟨⟨x0, x1⟩, decide_eq_true ye.symm⟩
end FF
namespace FF
open PySem PySem.Spec PyProof.Rows L2
variable [LT]
/-! ### tuple * int, from 0 on -/
section
variable {X : Cx}
end
end FF
namespace FF
open PySem PySem.Spec PyProof.Rows L2
variable [LT]
/-! ### hung forests -/
structure Nd where
  top : Int
  dep : Int
  up : Option (Int × Int)
def Nd.vals (d : Nd) : List V := match d.up with
  | none => [.int d.top, .int d.dep, .non, .non]
  | some (y, m) => [.int d.top, .int d.dep, .int y, .int m]
theorem Nd.vals0 (d : Nd) : d.vals[0]? = some (.int d.top) := by
  unfold Nd.vals
  split <;> rfl
theorem Nd.vals1 (d : Nd) : d.vals[1]? = some (.int d.dep) := by
  unfold Nd.vals
  split <;> rfl
theorem Nd.vals2 {d : Nd} {y m : Int} (h : d.up = some (y, m)) : d.vals[2]? = some (.int y) := by
  unfold Nd.vals
  rw [h]
  rfl
theorem Nd.vals3 {d : Nd} {y m : Int} (h : d.up = some (y, m)) : d.vals[3]? = some (.int m) := by
  unfold Nd.vals
  rw [h]
  rfl
abbrev Nds := List (Option Nd)
def atN (ds : Nds) (x : Int) : Option Nd := ds.getD x.toNat none
theorem atN_set {ds : Nds} {x y : Int} {o : Option Nd} (x0 : 0 ≤ x) (x1 : x < ds.length) (y0 : 0 ≤ y) : atN (ds.set x.toNat o) y = if y = x then o else atN ds y := by
  unfold atN
  rw [List.getD_eq_getElem?_getD, List.getD_eq_getElem?_getD, List.getElem?_set]
  by_cases e : y = x
  · subst e
    rw [if_pos rfl, if_pos rfl, if_pos (by omega)]
    rfl
  · rw [if_neg e, if_neg (by omega)]
theorem atN_get {ds : Nds} {x : Int} (x0 : 0 ≤ x) (x1 : x < ds.length) : ds[x.toNat]? = some (atN ds x) := by
  unfold atN
  rw [List.getD_eq_getElem?_getD, List.getElem?_eq_getElem (by omega)]
  rfl
/-- a node's value -/
def NdV (H : Hp) (v : V) : Option Nd → Prop
  | none => v = .non
  | some d => ∃ q, v = .ref q ∧ H q = some (.tup d.vals)
theorem NdV.mono {H H' : Hp} {v : V} {o : Option Nd} (h : NdV H v o) (k : ∀ q xs, H q = some (.tup xs) → H' q = some (.tup xs)) : NdV H' v o := by
  cases o with
  | none => exact h
  | some d =>
    obtain ⟨q, e, z⟩ := h
    exact ⟨q, e, k _ _ z⟩
structure Hg (H : Hp) (h : Addr) (ds : Nds) : Prop where
  ex : ∃ vs, H h = some (.lst vs) ∧ vs.length = ds.length ∧ ∀ (i : Nat) o, ds[i]? = some o → ∃ v, vs[i]? = some v ∧ NdV H v o
theorem Hg.kx {S : Addr → Prop} {H H' : Hp} {h : Addr} {ds : Nds} (g : Hg H h ds) (k : Kx S H H') (n : ¬ S h) (nt : ∀ q xs, H q = some (.tup xs) → ¬ S q) : Hg H' h ds := by
  obtain ⟨vs, e, l, r⟩ := g.ex
  exact ⟨vs, k.at_ _ _ e (fun _ z => nomatch z) n, l, fun i o ho => by
    obtain ⟨v, hv, z⟩ := r i o ho
    exact ⟨v, hv, z.mono fun q xs e => k.tup e (nt q xs e)⟩⟩
theorem Hg.ke {H H' : Hp} {h : Addr} {ds : Nds} (g : Hg H h ds) (k : Ke H H') : Hg H' h ds := g.kx k (fun z => z) fun _ _ _ z => z
/-- the value at a point -/
theorem Hg.val {K : PySem.W.Frag} {H : Hp} {h : Addr} {ds : Nds} (g : Hg H h ds) {x : Int} (x0 : 0 ≤ x) (x1 : x < ds.length) : ∃ vs v, SqL K H h vs ∧ atI vs x = some v ∧ NdV H v (atN ds x) := by
  obtain ⟨vs, e, l, r⟩ := g.ex
  obtain ⟨v, hv, z⟩ := r x.toNat _ (atN_get x0 x1)
  obtain ⟨j, rfl⟩ : ∃ j : Nat, x = j := ⟨x.toNat, by omega⟩
  exact ⟨vs, v, sqL_of e, atI_nat (by simpa using hv), z⟩
/-- a point is hung -/
theorem Hg.set {H : Hp} {h q : Addr} {ds : Nds} (g : Hg H h ds) {x : Int} (x0 : 0 ≤ x) (x1 : x < ds.length) {d : Nd} (hq : H q = some (.tup d.vals)) : ∃ vs, H h = some (.lst vs) ∧ vs.length = ds.length ∧ Hg (upd H h (.lst (vs.set x.toNat (.ref q)))) h (ds.set x.toNat (some d)) := by
  obtain ⟨vs, e, l, r⟩ := g.ex
  have kt : ∀ (a : Addr) xs, H a = some (.tup xs) → upd H h (.lst (vs.set x.toNat (.ref q))) a = some (.tup xs) := fun a xs z => by rw [upd_ne (ne_of z e (fun w => nomatch w))]; exact z
  refine ⟨vs, e, l, ⟨_, upd_same, by rw [List.length_set, List.length_set]; exact l, fun i o ho => ?_⟩⟩
  rw [List.getElem?_set] at ho ⊢
  by_cases c : x.toNat = i
  · rw [if_pos c, if_pos (by omega)] at ho
    rw [if_pos c, if_pos (by omega)]
    cases ho
    exact ⟨_, rfl, q, rfl, kt _ _ hq⟩
  · rw [if_neg c] at ho ⊢
    obtain ⟨v, hv, z⟩ := r i o ho
    exact ⟨v, hv, z.mono kt⟩
/-! ### steps from point to point -/
structure Stp (H : Hp) (s : Addr) (qs : List Addr) (adj : List (List (Int × Int))) : Prop where
  at_ : H s = some (.lst (qs.map V.ref))
  len : qs.length = adj.length
  nd : qs.Nodup
  out : s ∉ qs
  each : ∀ (i : Nat) q, qs[i]? = some q → ∃ rs, H q = some (.lst rs) ∧ Ties H rs (adj.getD i [])
theorem Stp.kx {S : Addr → Prop} {H H' : Hp} {s : Addr} {qs : List Addr} {adj : List (List (Int × Int))} (g : Stp H s qs adj) (k : Kx S H H') (n : ¬ S s) (nq : ∀ q ∈ qs, ¬ S q) (nt : ∀ q xs, H q = some (.tup xs) → ¬ S q) : Stp H' s qs adj :=
  ⟨k.at_ _ _ g.at_ (fun _ z => nomatch z) n, g.len, g.nd, g.out, fun i q hq => by
    obtain ⟨rs, e, t⟩ := g.each i q hq
    exact ⟨rs, k.at_ _ _ e (fun _ z => nomatch z) (nq q (List.mem_of_getElem? hq)), t.mono fun a xs z => k.tup z (nt a xs z)⟩⟩
theorem Stp.ke {H H' : Hp} {s : Addr} {qs : List Addr} {adj : List (List (Int × Int))} (g : Stp H s qs adj) (k : Ke H H') : Stp H' s qs adj := g.kx k (fun z => z) (fun _ _ z => z) fun _ _ _ z => z
/-- one step more from a point -/
theorem Stp.put {H : Hp} {s : Addr} {qs : List Addr} {adj : List (List (Int × Int))} (g : Stp H s qs adj) {i : Nat} {q e : Addr} {rs : List V} {y m : Int} (hq : qs[i]? = some q) (hr : H q = some (.lst rs)) (he : H e = some (.tup [.int y, .int m])) : Stp (upd H q (.lst (rs ++ [.ref e]))) s qs (adj.set i (adj.getD i [] ++ [(y, m)])) := by
  have hm := List.mem_of_getElem? hq
  have kt : ∀ (a : Addr) xs, H a = some (.tup xs) → upd H q (.lst (rs ++ [.ref e])) a = some (.tup xs) := fun a xs z => by rw [upd_ne (ne_of z hr (fun w => nomatch w))]; exact z
  have hil : i < qs.length := (List.getElem?_eq_some_iff.mp hq).1
  refine ⟨by rw [upd_ne (show s ≠ q from fun z => g.out (z ▸ hm))]; exact g.at_, by rw [List.length_set]; exact g.len, g.nd, g.out, fun j q' hq' => ?_⟩
  by_cases c : j = i
  · subst c
    rw [hq] at hq'
    cases hq'
    obtain ⟨rs', e', t⟩ := g.each j q hq
    rw [hr] at e'
    cases e'
    refine ⟨_, upd_same, ?_⟩
    rw [List.getD_eq_getElem?_getD, List.getElem?_set, if_pos rfl, if_pos (by rw [← g.len]; exact hil)]
    exact (t.mono kt).append (Ties.one (kt _ _ he))
  · have hne : q' ≠ q := fun z => by
      obtain ⟨l1, e1⟩ := List.getElem?_eq_some_iff.mp hq
      obtain ⟨l2, e2⟩ := List.getElem?_eq_some_iff.mp hq'
      exact c ((List.getElem_inj g.nd).mp (e2.trans (z.trans e1.symm)))
    obtain ⟨rs', e', t⟩ := g.each j q' hq'
    refine ⟨rs', by rw [upd_ne hne]; exact e', ?_⟩
    rw [List.getD_eq_getElem?_getD, List.getElem?_set, if_neg (fun z => c z.symm), ← List.getD_eq_getElem?_getD]
    exact t.mono kt
def stp (adj : List (List (Int × Int))) (x : Int) : List (Int × Int) := adj.getD x.toNat []
/-- a tie m leads from x to y -/
def Leads (ts : List (Int × Int)) (m x y : Int) : Prop := ts.getD m.toNat (0, 0) = (x, y) ∨ ts.getD m.toNat (0, 0) = (y, x)
theorem Leads.symm {ts : List (Int × Int)} {m x y : Int} (h : Leads ts m x y) : Leads ts m y x := h.elim .inr .inl
structure Adj (n : Int) (ts : List (Int × Int)) (ms : List Int) (adj : List (List (Int × Int))) : Prop where
  len : (adj.length : Int) = n
  mem : ∀ x y m, 0 ≤ x → x < n → ((y, m) ∈ stp adj x ↔ m ∈ ms ∧ Leads ts m x y)
/-! ### hung in part -/
structure NdOk (n : Int) (ts : List (Int × Int)) (ms : List Int) (ds : Nds) (x : Int) (d : Nd) : Prop where
  rng : 0 ≤ d.top ∧ d.top < n
  topd : atN ds d.top = some ⟨d.top, 0, none⟩
  root : d.up = none → d.top = x ∧ d.dep = 0
  step : ∀ y m, d.up = some (y, m) → (0 ≤ y ∧ y < n) ∧ (m ∈ ms ∧ Leads ts m x y) ∧ ∃ d', atN ds y = some d' ∧ d'.top = d.top ∧ d'.dep + 1 = d.dep
  pos : 0 ≤ d.dep
structure Ext (n : Int) (ds ds' : Nds) : Prop where
  len : ds'.length = ds.length
  keep : ∀ x d, 0 ≤ x → x < n → atN ds x = some d → atN ds' x = some d
theorem Ext.refl {n : Int} {ds : Nds} : Ext n ds ds := ⟨rfl, fun _ _ _ _ h => h⟩
theorem Ext.trans {n : Int} {a b c : Nds} (h : Ext n a b) (k : Ext n b c) : Ext n a c := ⟨k.len.trans h.len, fun x d x0 x1 e => k.keep x d x0 x1 (h.keep x d x0 x1 e)⟩
theorem NdOk.ext {n : Int} {ts : List (Int × Int)} {ms : List Int} {ds ds' : Nds} {x : Int} {d : Nd} (h : NdOk n ts ms ds x d) (k : Ext n ds ds') : NdOk n ts ms ds' x d :=
  ⟨h.rng, k.keep _ _ h.rng.1 h.rng.2 h.topd, h.root, fun y m e => by
    obtain ⟨a, b, d', c, r⟩ := h.step y m e
    exact ⟨a, b, d', k.keep _ _ a.1 a.2 c, r⟩, h.pos⟩
structure Part (n : Int) (ts : List (Int × Int)) (ms : List Int) (adj : List (List (Int × Int))) (ds : Nds) (op : Int → Prop) : Prop where
  len : (ds.length : Int) = n
  ok : ∀ x d, 0 ≤ x → x < n → atN ds x = some d → NdOk n ts ms ds x d
  closed : ∀ x d, 0 ≤ x → x < n → atN ds x = some d → ¬ op x → ∀ y m, (y, m) ∈ stp adj x → ∃ d', atN ds y = some d' ∧ d'.top = d.top
/-- how many are not hung -/
def bareN (ds : Nds) : Nat := ds.countP Option.isNone
theorem bareN_set : ∀ {ds : Nds} {i : Nat} {d : Nd}, ds[i]? = some none → bareN (ds.set i (some d)) + 1 = bareN ds
  | [], i, d, h => by simp at h
  | o :: r, 0, d, h => by
    have : o = none := by simpa using h
    subst this
    unfold bareN
    rw [List.set_cons_zero, List.countP_cons, List.countP_cons]
    simp
  | o :: r, i + 1, d, h => by
    have ih := bareN_set (ds := r) (i := i) (d := d) (by simpa using h)
    unfold bareN at *
    rw [List.set_cons_succ, List.countP_cons, List.countP_cons]
    omega
/-- a new point is hung -/
theorem Part.hang {n : Int} {ts : List (Int × Int)} {ms : List Int} {adj : List (List (Int × Int))} {ds : Nds} {op : Int → Prop} (h : Part n ts ms adj ds op) {x : Int} {d : Nd} (x0 : 0 ≤ x) (x1 : x < n) (hn : atN ds x = none) (hd : NdOk n ts ms (ds.set x.toNat (some d)) x d) :
    Ext n ds (ds.set x.toNat (some d)) ∧ Part n ts ms adj (ds.set x.toNat (some d)) (fun y => op y ∨ y = x) := by
  have hl := h.len
  have e : ∀ y, 0 ≤ y → atN (ds.set x.toNat (some d)) y = if y = x then some d else atN ds y := fun y y0 => atN_set x0 (by omega) y0
  have ext : Ext n ds (ds.set x.toNat (some d)) := ⟨List.length_set .., fun y d' y0 y1 hy => by
    rw [e y y0, if_neg (fun z => by rw [z, hn] at hy; cases hy)]
    exact hy⟩
  refine ⟨ext, by rw [List.length_set]; exact hl, fun y d' y0 y1 hy => ?_, fun y d' y0 y1 hy hop z m hz => ?_⟩
  · rw [e y y0] at hy
    by_cases c : y = x
    · rw [if_pos c] at hy
      cases hy
      subst c
      exact hd
    · rw [if_neg c] at hy
      exact (h.ok y d' y0 y1 hy).ext ext
  · have c : y ≠ x := fun c => hop (.inr c)
    rw [e y y0, if_neg c] at hy
    obtain ⟨d2, h2, h3⟩ := h.closed y d' y0 y1 hy (fun w => hop (.inl w)) z m hz
    by_cases cz : z = x
    · rw [cz, hn] at h2
      cases h2
    · refine ⟨d2, ?_, h3⟩
      by_cases z0 : 0 ≤ z
      · rw [e z z0, if_neg cz]
        exact h2
      · unfold atN at h2 ⊢
        rw [List.getD_eq_getElem?_getD, List.getElem?_set]
        rw [List.getD_eq_getElem?_getD] at h2
        have : z.toNat = 0 := by omega
        by_cases c0 : x.toNat = z.toNat
        · have : x = 0 := by omega
          have h3 : atN ds x = some d2 := by
            unfold atN
            rw [List.getD_eq_getElem?_getD, c0]
            exact h2
          rw [hn] at h3
          cases h3
        · rw [if_neg c0]
          exact h2
theorem Part.weak {n : Int} {ts : List (Int × Int)} {ms : List Int} {adj : List (List (Int × Int))} {ds : Nds} {op op' : Int → Prop} (h : Part n ts ms adj ds op) (k : ∀ x, 0 ≤ x → x < n → op x → op' x) : Part n ts ms adj ds op' :=
  ⟨h.len, h.ok, fun x d x0 x1 hx no y m hy => h.closed x d x0 x1 hx (fun z => no (k x x0 x1 z)) y m hy⟩
theorem while_gh {α : Type} {c : TT} {tb : TS} {D : Ends} {σ : L2.St} {H : Hp} (Pv : α → L2.St → Hp → Prop) (μ : α → Nat) (a0 : α) (h0 : Pv a0 σ H)
    (hs : ∀ a σ H, Pv a σ H → c σ H fun b H1 => if b = true then tb { D with nx := fun σ' H' => ∃ a', μ a' < μ a ∧ Pv a' σ' H', ct := fun σ' H' => ∃ a', μ a' < μ a ∧ Pv a' σ' H', bk := D.nx } σ H1 else D.nx σ H1)
    (mono : ∀ σ H Q Q', (∀ b H1, Q b H1 → Q' b H1) → c σ H Q → c σ H Q') : tWhile c tb D σ H := by
  refine ⟨fun m σ H => ∃ a, m = μ a ∧ Pv a σ H, ⟨_, a0, rfl, h0⟩, ?_⟩
  rintro m σ H ⟨a, rfl, p⟩
  refine mono σ H _ _ (fun b H1 q => ?_) (hs a σ H p)
  cases b with
  | true => exact ⟨_, fun σ' H' ⟨a', l, p'⟩ => ⟨_, l, a', rfl, p'⟩, q⟩
  | false => exact q
theorem Part.close {n : Int} {ts : List (Int × Int)} {ms : List Int} {adj : List (List (Int × Int))} {ds : Nds} {op : Int → Prop} {p : Int} (h : Part n ts ms adj ds (fun x => op x ∨ x = p)) {d : Nd} (hp : atN ds p = some d) (k : ∀ y m, (y, m) ∈ stp adj p → ∃ d', atN ds y = some d' ∧ d'.top = d.top) : Part n ts ms adj ds op :=
  ⟨h.len, h.ok, fun x d' x0 x1 hx no y m hy => by
    by_cases c : x = p
    · subst c
      rw [hp] at hx
      cases hx
      exact k y m hy
    · exact h.closed x d' x0 x1 hx (fun z => z.elim no c) y m hy⟩
/-- points that wait -/
def Wait (n : Int) (ds : Nds) (top : Int) (ws : List Int) : Prop := ∀ x ∈ ws, (0 ≤ x ∧ x < n) ∧ ∃ d, atN ds x = some d ∧ d.top = top
theorem Wait.ext {n : Int} {ds ds' : Nds} {top : Int} {ws : List Int} (h : Wait n ds top ws) (k : Ext n ds ds') : Wait n ds' top ws := fun x hx => by
  obtain ⟨r, d, e, t⟩ := h x hx
  exact ⟨r, d, k.keep x d r.1 r.2 e, t⟩
theorem Stp.at_pt {H : Hp} {s : Addr} {qs : List Addr} {adj : List (List (Int × Int))} (g : Stp H s qs adj) {x : Int} (x0 : 0 ≤ x) (x1 : x < adj.length) : ∃ q rs, q ∈ qs ∧ qs[x.toNat]? = some q ∧ atI (qs.map V.ref) x = some (.ref q) ∧ H q = some (.lst rs) ∧ Ties H rs (stp adj x) := by
  have hl := g.len
  have hx : x.toNat < qs.length := by omega
  have hq := List.getElem?_eq_getElem hx
  obtain ⟨rs, e, t⟩ := g.each _ _ hq
  obtain ⟨j, rfl⟩ : ∃ j : Nat, x = j := ⟨x.toNat, by omega⟩
  refine ⟨_, rs, List.getElem_mem hx, hq, atI_nat (by rw [List.getElem?_map]; simp only [Int.toNat_natCast] at hq; rw [hq]; rfl), e, t⟩
theorem Leads.rng {n : Int} {ts : List (Int × Int)} {m x y : Int} (h : Leads ts m x y) (ok : TOk n [ts.getD m.toNat (0, 0)]) : 0 ≤ y ∧ y < n := by
  have := ok _ List.mem_cons_self
  rcases h with h | h
  · rw [h] at this
    dsimp only at this
    omega
  · rw [h] at this
    dsimp only at this
    omega
/-- hung whole -/
structure Hung (n : Int) (ts : List (Int × Int)) (ms : List Int) (ds : Nds) : Prop where
  len : (ds.length : Int) = n
  all : ∀ x, 0 ≤ x → x < n → ∃ d, atN ds x = some d ∧ NdOk n ts ms ds x d
  tie : ∀ m x y, m ∈ ms → Leads ts m x y → 0 ≤ x → x < n → ∀ dx dy, atN ds x = some dx → atN ds y = some dy → dx.top = dy.top
theorem Part.hung {n : Int} {ts : List (Int × Int)} {ms : List Int} {adj : List (List (Int × Int))} {ds : Nds} (h : Part n ts ms adj ds (fun _ => False)) (hA : Adj n ts ms adj) (ha : ∀ x, 0 ≤ x → x < n → atN ds x ≠ none) : Hung n ts ms ds := by
  refine ⟨h.len, fun x x0 x1 => ?_, fun m x y hm hl x0 x1 dx dy hx hy => ?_⟩
  · cases e : atN ds x with
    | none => exact absurd e (ha x x0 x1)
    | some d => exact ⟨d, rfl, h.ok x d x0 x1 e⟩
  · obtain ⟨d', e, t⟩ := h.closed x dx x0 x1 hx (fun z => z) y m ((hA.mem x y m x0 x1).mpr ⟨hm, hl⟩)
    rw [hy] at e
    cases e
    exact t.symm
theorem atN_rep {n : Nat} {x : Int} : atN (List.replicate n none) x = none := by
  unfold atN
  rw [List.getD_eq_getElem?_getD, List.getElem?_replicate]
  split <;> rfl
theorem Part.start {n : Int} (h : 0 ≤ n) (ts : List (Int × Int)) (ms : List Int) (adj : List (List (Int × Int))) : Part n ts ms adj (List.replicate n.toNat none) (fun _ => False) :=
  ⟨by rw [List.length_replicate]; omega, (fun x d _ _ e => by rw [atN_rep] at e; cases e), (fun x d _ _ e => by rw [atN_rep] at e; cases e)⟩
theorem Adj.start {n : Int} (h : 0 ≤ n) (ts : List (Int × Int)) : Adj n ts [] (List.replicate n.toNat []) :=
  ⟨by rw [List.length_replicate]; omega, fun x y m _ _ => by
    unfold stp
    rw [List.getD_eq_getElem?_getD, List.getElem?_replicate]
    constructor
    · intro z
      split at z <;> exact nomatch z
    · intro z
      exact nomatch z.1⟩
theorem stp_set {adj : List (List (Int × Int))} {i x : Int} {l : List (Int × Int)} (i0 : 0 ≤ i) (i1 : i < adj.length) (x0 : 0 ≤ x) : stp (adj.set i.toNat l) x = if x = i then l else stp adj x := by
  unfold stp
  rw [List.getD_eq_getElem?_getD, List.getD_eq_getElem?_getD, List.getElem?_set]
  by_cases e : x = i
  · subst e
    rw [if_pos rfl, if_pos rfl, if_pos (by omega)]
    rfl
  · rw [if_neg e, if_neg (by omega)]
theorem Adj.more {n : Int} {ts : List (Int × Int)} {ms : List Int} {adj : List (List (Int × Int))} (h : Adj n ts ms adj) {m a b : Int} (hm : ts.getD m.toNat (0, 0) = (a, b)) (a0 : 0 ≤ a) (hab : a < b) (b1 : b < n) :
    Adj n ts (ms ++ [m]) ((adj.set a.toNat (stp adj a ++ [(b, m)])).set b.toNat (stp (adj.set a.toNat (stp adj a ++ [(b, m)])) b ++ [(a, m)])) := by
  have hl := h.len
  refine ⟨by rw [List.length_set, List.length_set]; exact hl, fun x y k x0 x1 => ?_⟩
  have e2 : stp (adj.set a.toNat (stp adj a ++ [(b, m)])) b = stp adj b := by rw [stp_set a0 (by omega) (by omega), if_neg (by omega)]
  have e3 : stp (adj.set a.toNat (stp adj a ++ [(b, m)])) x = if x = a then stp adj a ++ [(b, m)] else stp adj x := stp_set a0 (by omega) x0
  rw [stp_set (i := b) (by omega) (by rw [List.length_set]; omega) x0, e2, e3, List.mem_append, List.mem_singleton]
  have ih := h.mem x y k x0 x1
  have key : Leads ts m x y ↔ (a = x ∧ b = y) ∨ (a = y ∧ b = x) := by
    unfold Leads
    rw [hm, Prod.mk.injEq, Prod.mk.injEq]
  by_cases c1 : x = b
  · rw [if_pos c1, List.mem_append, List.mem_singleton, Prod.mk.injEq]
    subst c1
    rw [ih]
    constructor
    · rintro (⟨z1, z2⟩ | ⟨z1, z2⟩)
      · exact ⟨.inl z1, z2⟩
      · subst z1 z2
        exact ⟨.inr rfl, key.mpr (.inr ⟨rfl, rfl⟩)⟩
    · rintro ⟨z1 | z1, z2⟩
      · exact .inl ⟨z1, z2⟩
      · subst z1
        rcases key.mp z2 with z | z
        · omega
        · exact .inr ⟨z.1.symm, rfl⟩
  · rw [if_neg c1]
    by_cases c2 : x = a
    · rw [if_pos c2, List.mem_append, List.mem_singleton, Prod.mk.injEq]
      subst c2
      rw [ih]
      constructor
      · rintro (⟨z1, z2⟩ | ⟨z1, z2⟩)
        · exact ⟨.inl z1, z2⟩
        · subst z1 z2
          exact ⟨.inr rfl, key.mpr (.inl ⟨rfl, rfl⟩)⟩
      · rintro ⟨z1 | z1, z2⟩
        · exact .inl ⟨z1, z2⟩
        · subst z1
          rcases key.mp z2 with z | z
          · exact .inr ⟨z.2.symm, rfl⟩
          · omega
    · rw [if_neg c2, ih]
      constructor
      · rintro ⟨z1, z2⟩
        exact ⟨.inl z1, z2⟩
      · rintro ⟨z1 | z1, z2⟩
        · exact ⟨z1, z2⟩
        · subst z1
          rcases key.mp z2 with z | z <;> omega
theorem rep_nons (n : Nat) : (List.replicate n [V.non]).flatten = List.replicate n V.non := by
  induction n with
  | zero => rfl
  | succ n ih =>
    rw [List.replicate_succ, List.replicate_succ, List.flatten_cons, ih]
    rfl
theorem Hg.start {H : Hp} {h : Addr} {n : Nat} (e : H h = some (.lst (List.replicate n V.non))) : Hg H h (List.replicate n none) :=
  ⟨_, e, by rw [List.length_replicate, List.length_replicate], fun i o ho => by
    rw [List.getElem?_replicate] at ho ⊢
    split at ho
    · rename_i c
      cases ho
      rw [if_pos c]
      exact ⟨_, rfl, rfl⟩
    · cases ho⟩
end FF
namespace FF
open PySem PySem.Spec PyProof.Rows L2
variable [LT]
/-! ### ways along ties -/
inductive Way (ts : List (Int × Int)) : Int → List Int → Int → Prop where
  | nil (x : Int) : Way ts x [] x
  | cons {m x y z : Int} {l : List Int} : Leads ts m x y → Way ts y l z → Way ts x (m :: l) z
theorem Way.append {ts : List (Int × Int)} {x y z : Int} {l k : List Int} (h : Way ts x l y) (g : Way ts y k z) : Way ts x (l ++ k) z := by
  induction h with
  | nil x => exact g
  | cons hl _ ih => exact .cons hl (ih g)
theorem Way.snoc {ts : List (Int × Int)} {x y z m : Int} {l : List Int} (h : Way ts x l y) (g : Leads ts m y z) : Way ts x (l ++ [m]) z := h.append (.cons g (.nil z))
theorem Way.rev {ts : List (Int × Int)} {x y : Int} {l : List Int} (h : Way ts x l y) : Way ts y l.reverse x := by
  induction h with
  | nil x => exact .nil x
  | cons hl _ ih =>
    rw [List.reverse_cons]
    exact ih.snoc hl.symm
def depN (ds : Nds) (x : Int) : Int := match atN ds x with
  | some d => d.dep
  | none => 0
def tieN (ds : Nds) (x : Int) : Int := match atN ds x with
  | some ⟨_, _, some (_, m)⟩ => m
  | _ => 0
theorem depN_of {ds : Nds} {x : Int} {d : Nd} (h : atN ds x = some d) : depN ds x = d.dep := by
  unfold depN
  rw [h]
theorem tieN_of {ds : Nds} {x y m : Int} {d : Nd} (h : atN ds x = some d) (hu : d.up = some (y, m)) : tieN ds x = m := by
  unfold tieN
  rw [h]
  obtain ⟨a, b, c⟩ := d
  dsimp only at hu
  subst hu
  rfl
/-- a point that hangs below another -/
def Low (n : Int) (ds : Nds) (x : Int) : Prop := (0 ≤ x ∧ x < n) ∧ ∃ d y m, atN ds x = some d ∧ d.up = some (y, m)
section
variable {n : Int} {ts : List (Int × Int)} {ms : List Int} {ds : Nds}
theorem Hung.nd (h : Hung n ts ms ds) {x : Int} {d : Nd} (x0 : 0 ≤ x) (x1 : x < n) (e : atN ds x = some d) : NdOk n ts ms ds x d := by
  obtain ⟨d', e', k⟩ := h.all x x0 x1
  rw [e] at e'
  cases e'
  exact k
theorem Hung.dep_pos (h : Hung n ts ms ds) {x : Int} (x0 : 0 ≤ x) (x1 : x < n) : 0 ≤ depN ds x := by
  obtain ⟨d, e, k⟩ := h.all x x0 x1
  rw [depN_of e]
  exact k.pos
theorem Hung.inj (h : Hung n ts ms ds) {x y : Int} (hx : Low n ds x) (hy : Low n ds y) (e : tieN ds x = tieN ds y) : x = y := by
  obtain ⟨⟨x0, x1⟩, dx, ux, mx, ex, hux⟩ := hx
  obtain ⟨⟨y0, y1⟩, dy, uy, my, ey, huy⟩ := hy
  rw [tieN_of ex hux, tieN_of ey huy] at e
  subst e
  obtain ⟨⟨u0, u1⟩, ⟨_, lx⟩, d1, e1, _, p1⟩ := (h.nd x0 x1 ex).step _ _ hux
  obtain ⟨⟨w0, w1⟩, ⟨_, ly⟩, d2, e2, _, p2⟩ := (h.nd y0 y1 ey).step _ _ huy
  have key : x = y ∨ (x = uy ∧ y = ux) := by
    rcases lx with lx | lx <;> rcases ly with ly | ly <;> rw [lx, Prod.mk.injEq] at ly
    · exact .inl ly.1
    · exact .inr ⟨ly.1, ly.2.symm⟩
    · exact .inr ⟨ly.2, ly.1.symm⟩
    · exact .inl ly.2
  rcases key with k | ⟨k1, k2⟩
  · exact k
  · subst k1 k2
    rw [ex] at e2
    rw [ey] at e1
    cases e1
    cases e2
    omega
end
/-- what the climbing has so far: points climbed from a (xs) and from b (ys), where it stands -/
structure Climb (n : Int) (ts : List (Int × Int)) (ds : Nds) (a0 b0 : Int) (xs ys : List Int) (a b : Int) : Prop where
  ra : 0 ≤ a ∧ a < n
  rb : 0 ≤ b ∧ b < n
  wa : Way ts a0 (xs.map (tieN ds)) a
  wb : Way ts b0 (ys.map (tieN ds)) b
  lx : ∀ x ∈ xs, Low n ds x ∧ depN ds a < depN ds x ∧ depN ds b ≤ depN ds x ∧ x ≠ b
  ly : ∀ y ∈ ys, Low n ds y ∧ depN ds b < depN ds y ∧ depN ds a < depN ds y
  nd : (xs ++ ys).Nodup
  tp : ∀ da db, atN ds a = some da → atN ds b = some db → da.top = db.top
section
variable {n : Int} {ts : List (Int × Int)} {ms : List Int} {ds : Nds} {a0 b0 a b : Int} {xs ys : List Int}
theorem Climb.upA (c : Climb n ts ds a0 b0 xs ys a b) (h : Hung n ts ms ds) (hab : a ≠ b) (hd : depN ds b ≤ depN ds a) {da : Nd} (ea : atN ds a = some da) : ∃ y m, da.up = some (y, m) ∧ m ∈ ms ∧ depN ds y + 1 = depN ds a ∧ Climb n ts ds a0 b0 (xs ++ [a]) ys y b := by
  obtain ⟨a0', a1'⟩ := c.ra
  obtain ⟨b0', b1'⟩ := c.rb
  have ka := h.nd a0' a1' ea
  obtain ⟨db, eb, kb⟩ := h.all b b0' b1'
  have htp := c.tp da db ea eb
  rw [depN_of ea, depN_of eb] at hd
  cases eu : da.up with
  | none =>
    obtain ⟨r1, r2⟩ := ka.root eu
    have hb0 : db.dep = 0 := by have := kb.pos; omega
    cases eub : db.up with
    | none =>
      obtain ⟨s1, _⟩ := kb.root eub
      exact absurd (r1.symm.trans (htp.trans s1)) hab
    | some p =>
      obtain ⟨_, _, d', e', _, p'⟩ := kb.step p.1 p.2 eub
      have hp := (kb.step p.1 p.2 eub).1
      have := (h.nd hp.1 hp.2 e').pos
      omega
  | some p =>
    obtain ⟨y, m⟩ := p
    obtain ⟨⟨y0, y1⟩, ⟨hm, hl⟩, d', e', t', p'⟩ := ka.step y m eu
    have edy : depN ds y + 1 = depN ds a := by rw [depN_of e', depN_of ea]; exact p'
    have hlow : Low n ds a := ⟨c.ra, da, y, m, ea, eu⟩
    refine ⟨y, m, rfl, hm, edy, ⟨y0, y1⟩, c.rb, ?_, c.wb, fun x hx => ?_, fun z hz => ?_, ?_, fun d1 d2 e1 e2 => ?_⟩
    · rw [List.map_append, List.map_cons, List.map_nil, tieN_of ea eu]
      exact c.wa.snoc hl
    · rcases List.mem_append.mp hx with hx | hx
      · obtain ⟨l1, l2, l3, l4⟩ := c.lx x hx
        exact ⟨l1, by omega, l3, l4⟩
      · rw [List.mem_singleton.mp hx]
        exact ⟨hlow, by omega, by rw [depN_of ea, depN_of eb]; exact hd, hab⟩
    · obtain ⟨l1, l2, l3⟩ := c.ly z hz
      exact ⟨l1, l2, by omega⟩
    · have nd := c.nd
      rw [List.nodup_append] at nd ⊢
      obtain ⟨n1, n2, n3⟩ := nd
      refine ⟨?_, n2, fun x hx z hz => ?_⟩
      · rw [List.nodup_append]
        refine ⟨n1, by simp, fun x hx z hz => ?_⟩
        rw [List.mem_singleton.mp hz]
        intro e
        have := (c.lx x hx).2.1
        rw [e] at this
        omega
      · rcases List.mem_append.mp hx with hx | hx
        · exact n3 x hx z hz
        · rw [List.mem_singleton.mp hx]
          intro e
          have := (c.ly z hz).2.2
          rw [e] at this
          omega
    · rw [e'] at e1
      cases e1
      rw [eb] at e2
      cases e2
      rw [t']
      exact htp
theorem Climb.upB (c : Climb n ts ds a0 b0 xs ys a b) (h : Hung n ts ms ds) (hd : depN ds a < depN ds b) {db : Nd} (eb : atN ds b = some db) : ∃ y m, db.up = some (y, m) ∧ m ∈ ms ∧ depN ds y + 1 = depN ds b ∧ Climb n ts ds a0 b0 xs (ys ++ [b]) a y := by
  obtain ⟨a0', a1'⟩ := c.ra
  obtain ⟨b0', b1'⟩ := c.rb
  have kb := h.nd b0' b1' eb
  obtain ⟨da, ea, ka⟩ := h.all a a0' a1'
  have htp := c.tp da db ea eb
  cases eu : db.up with
  | none =>
    obtain ⟨_, r2⟩ := kb.root eu
    rw [depN_of ea, depN_of eb] at hd
    have := ka.pos
    omega
  | some p =>
    obtain ⟨y, m⟩ := p
    obtain ⟨⟨y0, y1⟩, ⟨hm, hl⟩, d', e', t', p'⟩ := kb.step y m eu
    have edy : depN ds y + 1 = depN ds b := by rw [depN_of e', depN_of eb]; exact p'
    have hlow : Low n ds b := ⟨c.rb, db, y, m, eb, eu⟩
    refine ⟨y, m, rfl, hm, edy, c.ra, ⟨y0, y1⟩, c.wa, ?_, fun x hx => ?_, fun z hz => ?_, ?_, fun d1 d2 e1 e2 => ?_⟩
    · rw [List.map_append, List.map_cons, List.map_nil, tieN_of eb eu]
      exact c.wb.snoc hl
    · obtain ⟨l1, l2, l3, l4⟩ := c.lx x hx
      refine ⟨l1, l2, by omega, fun e => ?_⟩
      rw [e] at l3
      omega
    · rcases List.mem_append.mp hz with hz | hz
      · obtain ⟨l1, l2, l3⟩ := c.ly z hz
        exact ⟨l1, by omega, l3⟩
      · rw [List.mem_singleton.mp hz]
        exact ⟨hlow, by omega, hd⟩
    · have nd := c.nd
      rw [← List.append_assoc, List.nodup_append]
      refine ⟨nd, by simp, fun x hx z hz => ?_⟩
      rw [List.mem_singleton.mp hz]
      intro e
      rcases List.mem_append.mp hx with hx | hx
      · exact (c.lx x hx).2.2.2 e
      · have := (c.ly x hx).2.1
        rw [e] at this
        omega
    · rw [e'] at e2
      cases e2
      rw [ea] at e1
      cases e1
      rw [t']
      exact htp
/-- the ring that comes of it -/
structure IsRing (ts : List (Int × Int)) (ms : List Int) (a b : Int) (ns : List Int) : Prop where
  way : Way ts a ns b
  nd : ns.Nodup
  mem : ∀ m ∈ ns, m ∈ ms
theorem nodup_map {f : Int → Int} : ∀ {l : List Int}, l.Nodup → (∀ x ∈ l, ∀ y ∈ l, f x = f y → x = y) → (l.map f).Nodup
  | [], _, _ => List.nodup_nil
  | x :: r, h, k => by
    obtain ⟨h1, h2⟩ := List.nodup_cons.mp h
    rw [List.map_cons, List.nodup_cons]
    refine ⟨fun z => ?_, nodup_map h2 fun a ha b hb => k a (List.mem_cons_of_mem _ ha) b (List.mem_cons_of_mem _ hb)⟩
    obtain ⟨y, hy, e⟩ := List.mem_map.mp z
    have := k y (List.mem_cons_of_mem _ hy) x List.mem_cons_self e
    exact h1 (this ▸ hy)
theorem Climb.ring (c : Climb n ts ds a0 b0 xs ys a a) (h : Hung n ts ms ds) : IsRing ts ms a0 b0 (xs.map (tieN ds) ++ (ys.map (tieN ds)).reverse) := by
  have low : ∀ x ∈ xs ++ ys, Low n ds x := fun x hx => (List.mem_append.mp hx).elim (fun hx => (c.lx x hx).1) fun hx => (c.ly x hx).1
  refine ⟨c.wa.append c.wb.rev, ?_, fun m hm => ?_⟩
  · have nd := nodup_map (f := tieN ds) c.nd fun x hx y hy e => h.inj (low x hx) (low y hy) e
    rw [List.map_append] at nd
    exact ((List.Perm.refl _).append (List.reverse_perm _)).symm.nodup nd
  · have : m ∈ (xs ++ ys).map (tieN ds) := by
      rw [List.map_append, List.mem_append]
      rcases List.mem_append.mp hm with hm | hm
      · exact .inl hm
      · exact .inr (List.mem_reverse.mp hm)
    obtain ⟨x, hx, e⟩ := List.mem_map.mp this
    obtain ⟨⟨x0, x1⟩, d, y, k, ed, eu⟩ := low x hx
    rw [← e, tieN_of ed eu]
    exact ((h.nd x0 x1 ed).step y k eu).2.1.1
theorem Climb.len (c : Climb n ts ds a0 b0 xs ys a b) : xs.length ≤ n.toNat ∧ ys.length ≤ n.toNat := by
  have nd := c.nd
  rw [List.nodup_append] at nd
  refine ⟨?_, ?_⟩
  · have := nd_le nd.1 (m := upTo n) fun x hx => upTo_mem.mpr (c.lx x hx).1.1
    rw [upTo_length] at this
    exact this
  · have := nd_le nd.2.1 (m := upTo n) fun x hx => upTo_mem.mpr (c.ly x hx).1.1
    rw [upTo_length] at this
    exact this
end
/-! ### joined by the ties: the roots tell -/
theorem foldR_fine {g : Int → Int} : ∀ {L : List (Int × Int)} {r : Int → Int}, (∀ x y, r x = r y → g x = g y) → (∀ t ∈ L, g t.1 = g t.2) → ∀ x y, foldR r L x = foldR r L y → g x = g y
  | [], _, h, _, x, y, e => h x y e
  | t :: L, r, h, k, x, y, e => by
    refine foldR_fine (L := L) (r := rstep r t) (fun x y e => ?_) (fun u hu => k u (List.mem_cons_of_mem _ hu)) x y e
    have kt := k t List.mem_cons_self
    unfold rstep at e
    by_cases c1 : r x = r t.2
    · rw [if_pos c1] at e
      by_cases c2 : r y = r t.2
      · exact h x y (c1.trans c2.symm)
      · rw [if_neg c2] at e
        exact (h x t.2 c1).trans (kt.symm.trans (h t.1 y e))
    · rw [if_neg c1] at e
      by_cases c2 : r y = r t.2
      · rw [if_pos c2] at e
        exact (h x t.1 e).trans (kt.trans (h t.2 y c2.symm))
      · rw [if_neg c2] at e
        exact h x y e
theorem Leads.foldR {ts : List (Int × Int)} {ms : List Int} {m x y : Int} (hm : m ∈ ms) (h : Leads ts m x y) : FF.foldR (fun x => x) (pick ts ms) x = FF.foldR (fun x => x) (pick ts ms) y := by
  have hp : ts.getD m.toNat (0, 0) ∈ pick ts ms := List.mem_map.mpr ⟨m, hm, rfl⟩
  have := foldR_tie (r := fun x => x) hp
  rcases h with h | h
  · rw [h] at this
    exact this
  · rw [h] at this
    exact this.symm
section
variable {n : Int} {ts : List (Int × Int)} {ms : List Int} {ds : Nds}
theorem Hung.root (h : Hung n ts ms ds) : ∀ (k : Nat) {x : Int} {d : Nd}, 0 ≤ x → x < n → atN ds x = some d → d.dep = k → foldR (fun x => x) (pick ts ms) x = foldR (fun x => x) (pick ts ms) d.top := by
  intro k
  induction k with
  | zero =>
    intro x d x0 x1 e hd
    cases eu : d.up with
    | none => rw [((h.nd x0 x1 e).root eu).1]
    | some p =>
      obtain ⟨hp, _, d', e', _, p'⟩ := (h.nd x0 x1 e).step p.1 p.2 eu
      have := (h.nd hp.1 hp.2 e').pos
      have hd : d.dep = 0 := hd
      omega
  | succ k ih =>
    intro x d x0 x1 e hd
    cases eu : d.up with
    | none =>
      have := ((h.nd x0 x1 e).root eu).2
      omega
    | some p =>
      obtain ⟨hp, ⟨hm, hl⟩, d', e', t', p'⟩ := (h.nd x0 x1 e).step p.1 p.2 eu
      have := ih hp.1 hp.2 e' (by omega)
      rw [Leads.foldR hm hl, this, t']
theorem Hung.top_iff (h : Hung n ts ms ds) (hm : ∀ m ∈ ms, TOk n [ts.getD m.toNat (0, 0)]) {a b : Int} {da db : Nd} (a0 : 0 ≤ a) (a1 : a < n) (b0 : 0 ≤ b) (b1 : b < n) (ea : atN ds a = some da) (eb : atN ds b = some db) : da.top = db.top ↔ foldR (fun x => x) (pick ts ms) a = foldR (fun x => x) (pick ts ms) b := by
  constructor
  · intro e
    have ha := h.root da.dep.toNat a0 a1 ea (by have := (h.nd a0 a1 ea).pos; omega)
    have hb := h.root db.dep.toNat b0 b1 eb (by have := (h.nd b0 b1 eb).pos; omega)
    rw [ha, hb, e]
  · intro e
    have key := foldR_fine (g := fun x => match atN ds x with | some d => d.top | none => -1) (L := pick ts ms) (r := fun x => x) (fun x y e => by rw [e]) (fun t ht => by
      obtain ⟨m, hmm, rfl⟩ := List.mem_map.mp ht
      obtain ⟨t0, t1, t2⟩ := hm m hmm _ List.mem_cons_self
      have ld : Leads ts m (ts.getD m.toNat (0, 0)).1 (ts.getD m.toNat (0, 0)).2 := .inl rfl
      generalize ts.getD m.toNat (0, 0) = tm at *
      obtain ⟨d1, e1, _⟩ := h.all tm.1 t0 (by omega)
      obtain ⟨d2, e2, _⟩ := h.all tm.2 (by omega) t2
      show (match atN ds tm.1 with | some d => d.top | none => -1) = match atN ds tm.2 with | some d => d.top | none => -1
      rw [e1, e2]
      exact h.tie m _ _ hmm ld t0 (by omega) d1 d2 e1 e2) a b e
    rw [ea, eb] at key
    exact key
end
theorem nums_at {f : Int} : ∀ {i : Nat} {ws : List V} {m : Int}, m ∈ numsFrom f i ws → ∃ k : Nat, m = ((i + k : Nat) : Int) ∧ ws[k]? = some (.int f)
  | _, [], _, h => nomatch h
  | i, x :: ws, m, h => by
    rcases List.mem_append.mp h with h | h
    · by_cases e : x = V.int f
      · rw [if_pos e] at h
        exact ⟨0, by rw [List.mem_singleton.mp h]; rfl, by rw [e]; rfl⟩
      · rw [if_neg e] at h
        cases h
    · obtain ⟨k, e1, e2⟩ := nums_at h
      exact ⟨k + 1, by rw [e1]; congr 1; omega, by simpa using e2⟩
theorem Way.inv {ts : List (Int × Int)} {x z m : Int} {l : List Int} (h : Way ts x (m :: l) z) : ∃ y, Leads ts m x y ∧ Way ts y l z := by
  cases h with
  | cons a b => exact ⟨_, a, b⟩
theorem Way.stop {ts : List (Int × Int)} {x z : Int} (h : Way ts x [] z) : x = z := by
  cases h
  rfl
theorem nub_of_nd : ∀ {ns : List Int}, ns.Nodup → (nub ns).length = ns.length := fun {ns} h => nd_eq (nub_nd ns) h fun x => mem_nub ns x
end FF
namespace FF
open PySem PySem.Spec PyProof.Rows L2
variable [LT]
/-! ### sum of a tuple of ints -/
section
variable {X : Cx} {K : PySem.W.Frag}
end
end FF
namespace FF
open PySem PySem.Spec PyProof.Rows L2
variable [LT]
/-! ### first fit in fewer forests -/
theorem FF.take {k : Int} {ts : List (Int × Int)} {ws : List V} (h : FF k ts ws) (i : Nat) : FF k (ts.take i) (ws.take i) := by
  refine ⟨by rw [List.length_take, List.length_take, h.len], fun j t x ht hx => ?_⟩
  have hj : j < i := by
    have := (List.getElem?_eq_some_iff.mp ht).1
    rw [List.length_take] at this
    omega
  rw [List.getElem?_take_of_lt hj] at ht hx
  rw [List.take_take, List.take_take, Nat.min_eq_left (by omega)]
  exact h.each j t x ht hx
theorem FF.joined {k : Int} {ts : List (Int × Int)} {ws : List V} (h : FF k ts ws) (i : Nat) (t : Int × Int) (f : Int) : (foldR (fun x => x) (layerOf (ts.take i) (ws.take i) f) t.1 = foldR (fun x => x) (layerOf (ts.take i) (ws.take i) f) t.2) ↔ freeB (ts.take i) (ws.take i) t f = false := by
  rw [freeB_eq ((h.take i).forest f)]
  constructor
  · intro e
    rw [decide_eq_true e]
    rfl
  · intro e
    by_cases c : foldR (fun x => x) (layerOf (ts.take i) (ws.take i) f) t.1 = foldR (fun x => x) (layerOf (ts.take i) (ws.take i) f) t.2
    · exact c
    · rw [decide_eq_false c] at e
      cases e
theorem layerOf_congr {f : Int} : ∀ {ts : List (Int × Int)} {ws ws' : List V}, ws.length = ws'.length → (∀ (j : Nat) x y, ws[j]? = some x → ws'[j]? = some y → (x = V.int f ↔ y = V.int f)) → layerOf ts ws f = layerOf ts ws' f
  | [], _, _, _, _ => rfl
  | t :: ts, [], [], _, _ => rfl
  | t :: ts, x :: ws, y :: ws', hl, h => by
    have ih := layerOf_congr (f := f) (ts := ts) (ws := ws) (ws' := ws') (by simpa using hl) fun j a b ha hb => h (j + 1) a b (by simpa using ha) (by simpa using hb)
    have h0 := h 0 x y rfl rfl
    unfold layerOf at ih ⊢
    rw [List.zip_cons_cons, List.zip_cons_cons, List.filter_cons, List.filter_cons]
    by_cases c : x = V.int f
    · rw [if_pos (decide_eq_true c), if_pos (decide_eq_true (h0.mp c)), List.map_cons, List.map_cons, ih]
    · rw [if_neg (by rw [decide_eq_false c]; decide), if_neg (by rw [decide_eq_false fun z => c (h0.mpr z)]; decide), ih]
theorem FF.more {k K : Int} {ts : List (Int × Int)} {ws ws' : List V} (h : FF k ts ws) (h' : FF K ts ws') (hk : k ≤ K) : ∀ (i : Nat) x y, ws[i]? = some x → ws'[i]? = some y → ∀ f, f < k → (x = V.int f ↔ y = V.int f) := by
  intro i
  induction i using Nat.strongRecOn with
  | _ i ih =>
    intro x y hx hy f hf
    have hil := (List.getElem?_eq_some_iff.mp hx).1
    have hit : i < ts.length := by rw [← h.len]; exact hil
    have ht := List.getElem?_eq_getElem hit
    have c := h.each i _ x ht hx
    have c' := h'.each i _ y ht hy
    have fr : ∀ g, g < k → freeB (ts.take i) (ws.take i) ts[i] g = freeB (ts.take i) (ws'.take i) ts[i] g := fun g hg => by
      unfold freeB
      rw [layerOf_congr (ws := ws.take i) (ws' := ws'.take i) (by rw [List.length_take, List.length_take, h.len, h'.len]) fun j a b ha hb => ?_]
      have hj : j < i := by
        have := (List.getElem?_eq_some_iff.mp ha).1
        rw [List.length_take] at this
        omega
      rw [List.getElem?_take_of_lt hj] at ha hb
      exact ih j hj a b ha hb g hg
    constructor
    · intro e
      subst e
      cases c with
      | at_ f0 f1 ff fb =>
        cases c' with
        | out z =>
          have := z f f0 (by omega)
          rw [← fr f hf, ff] at this
          cases this
        | @at_ g g0 g1 gf gb =>
          by_cases c1 : g < f
          · have := fb g g0 c1
            rw [fr g (by omega), gf] at this
            cases this
          · by_cases c2 : f < g
            · have := gb f f0 c2
              rw [← fr f hf, ff] at this
              cases this
            · rw [show g = f by omega]
    · intro e
      subst e
      cases c' with
      | at_ g0 g1 gf gb =>
        cases c with
        | out z =>
          have := z f g0 hf
          rw [fr f hf, gf] at this
          cases this
        | @at_ g f0 f1 ff fb =>
          by_cases c1 : f < g
          · have := fb f g0 c1
            rw [fr f hf, gf] at this
            cases this
          · by_cases c2 : g < f
            · have := gb g f0 c2
              rw [← fr g f1, ff] at this
              cases this
            · rw [show g = f by omega]
end FF
namespace FF
open PySem PySem.Spec PyProof.Rows L2
variable [LT]
/-! ### two points with many ties -/
def dueV (k : Int) (i : Nat) : V := if (i : Int) < k then .int i else .non
def due (k : Int) (m : Nat) : List V := (List.range m).map (dueV k)
end FF
namespace FF
open PySem PySem.Spec PyProof.Rows L2
variable [LT]
/-! ### forests in any order; ties on the way -/
theorem ringlessF_ker : ∀ (L : List (Int × Int)) {r r' : Int → Int}, (∀ x y, r x = r y ↔ r' x = r' y) → ringlessF r L = ringlessF r' L
  | [], _, _, _ => rfl
  | t :: L, r, r', h => by
    show (if r t.1 = r t.2 then false else ringlessF (rstep r t) L) = (if r' t.1 = r' t.2 then false else ringlessF (rstep r' t) L)
    by_cases c : r t.1 = r t.2
    · rw [if_pos c, if_pos ((h _ _).mp c)]
    · rw [if_neg c, if_neg (fun z => c ((h _ _).mpr z))]
      refine ringlessF_ker L fun x y => ?_
      have h1 := h x y
      have h2 := h x t.2
      have h3 := h y t.2
      have h4 := h x t.1
      have h5 := h y t.1
      have h6 := h t.1 x
      have h7 := h t.1 y
      unfold rstep
      by_cases a1 : r x = r t.2
      · rw [if_pos a1, if_pos (h2.mp a1)]
        by_cases a2 : r y = r t.2
        · rw [if_pos a2, if_pos (h3.mp a2)]
          exact ⟨fun _ => rfl, fun _ => rfl⟩
        · rw [if_neg a2, if_neg (fun z => a2 (h3.mpr z))]
          exact h7
      · rw [if_neg a1, if_neg (fun z => a1 (h2.mpr z))]
        by_cases a2 : r y = r t.2
        · rw [if_pos a2, if_pos (h3.mp a2)]
          exact h4
        · rw [if_neg a2, if_neg (fun z => a2 (h3.mpr z))]
          exact h1
theorem foldR_sub {r : Int → Int} {L L' : List (Int × Int)} (h : ∀ t ∈ L, t ∈ L') (x y : Int) (e : foldR r L x = foldR r L y) : foldR r L' x = foldR r L' y :=
  foldR_fine (fun _ _ z => foldR_keep z) (fun t ht => foldR_tie (r := r) (h t ht)) x y e
theorem ringlessF_swap (r : Int → Int) (t u : Int × Int) (L : List (Int × Int)) : ringlessF r (t :: u :: L) = ringlessF r (u :: t :: L) := by
  show (if r t.1 = r t.2 then false else if rstep r t u.1 = rstep r t u.2 then false else ringlessF (rstep (rstep r t) u) L) = (if r u.1 = r u.2 then false else if rstep r u t.1 = rstep r u t.2 then false else ringlessF (rstep (rstep r u) t) L)
  by_cases c1 : r t.1 = r t.2
  · rw [if_pos c1]
    by_cases c2 : r u.1 = r u.2
    · rw [if_pos c2]
    · rw [if_neg c2, if_pos]
      unfold rstep
      rw [c1]
  · rw [if_neg c1]
    by_cases c2 : r u.1 = r u.2
    · rw [if_pos c2, if_pos]
      unfold rstep
      rw [c2]
    · rw [if_neg c2]
      by_cases c3 : rstep r t u.1 = rstep r t u.2
      · rw [if_pos c3, if_pos]
        unfold rstep at c3 ⊢
        split at c3 <;> split at c3 <;> split <;> split <;> omega
      · rw [if_neg c3, if_neg]
        · refine ringlessF_ker L fun x y => ?_
          have k1 := foldR_sub (r := r) (L := [t, u]) (L' := [u, t]) (fun w hw => by simp at hw ⊢; exact hw.symm) x y
          have k2 := foldR_sub (r := r) (L := [u, t]) (L' := [t, u]) (fun w hw => by simp at hw ⊢; exact hw.symm) x y
          exact ⟨k1, k2⟩
        · intro z
          refine c3 ?_
          unfold rstep at z ⊢
          split at z <;> split at z <;> split <;> split <;> omega
theorem ringlessF_perm {L L' : List (Int × Int)} (h : L.Perm L') : ∀ r : Int → Int, ringlessF r L = ringlessF r L' := by
  induction h with
  | nil => exact fun _ => rfl
  | cons t _ ih =>
    intro r
    show (if r t.1 = r t.2 then false else ringlessF (rstep r t) _) = (if r t.1 = r t.2 then false else ringlessF (rstep r t) _)
    rw [ih]
  | swap t u L => exact fun r => ringlessF_swap r u t L
  | trans _ _ a b => exact fun r => (a r).trans (b r)
theorem forest_apart {r : Int → Int} {L L' : List (Int × Int)} {t : Int × Int} (hp : L.Perm (L' ++ [t])) (h : ringlessF r L = true) : foldR r L' t.1 ≠ foldR r L' t.2 := by
  rw [ringlessF_perm hp r] at h
  cases e : ringlessF r L' with
  | false =>
    rw [ringlessF_bad L' r [t] e] at h
    cases h
  | true =>
    rw [ringlessF_more e, Bool.not_eq_true'] at h
    exact of_decide_eq_false h
theorem but_perm {x : Int} {ms : List Int} (hn : ms.Nodup) (hx : x ∈ ms) : ms.Perm (but x ms ++ [x]) := by
  induction ms with
  | nil => cases hx
  | cons m ms ih =>
    obtain ⟨h1, h2⟩ := List.nodup_cons.mp hn
    by_cases c : m = x
    · subst c
      have e : but m (m :: ms) = ms := by
        unfold but
        rw [List.filter_cons_of_neg (by simp), List.filter_eq_self.mpr]
        intro y hy
        have c : ¬ y = m := fun z => h1 (by rw [← z]; exact hy)
        rw [decide_eq_false c]
        rfl
      rw [e]
      exact (List.perm_append_singleton m ms).symm
    · have hx' : x ∈ ms := (List.mem_cons.mp hx).resolve_left fun z => c z.symm
      have e : but x (m :: ms) = m :: but x ms := by
        unfold but
        rw [List.filter_cons_of_pos]
        rw [decide_eq_false c]
        rfl
      rw [e]
      exact (ih h2 hx').cons m
theorem mem_but {g x : Int} {ms : List Int} : x ∈ but g ms ↔ x ∈ ms ∧ x ≠ g := by
  unfold but
  rw [List.mem_filter, Bool.not_eq_true', decide_eq_false_iff_not]
theorem Way.joined {ts : List (Int × Int)} {ms : List Int} {x y : Int} {l : List Int} (h : Way ts x l y) (hm : ∀ m ∈ l, m ∈ ms) : foldR (fun x => x) (pick ts ms) x = foldR (fun x => x) (pick ts ms) y := by
  induction h with
  | nil x => rfl
  | cons hl _ ih => exact (hl.foldR (hm _ List.mem_cons_self)).trans (ih fun m hm' => hm m (List.mem_cons_of_mem _ hm'))
theorem Way.cut {ts : List (Int × Int)} : ∀ {l : List Int} {x z m : Int}, Way ts x l z → m ∈ l → ∃ (l1 l2 : List Int) (u v : Int), l = l1 ++ m :: l2 ∧ Way ts x l1 u ∧ Leads ts m u v ∧ Way ts v l2 z
  | k :: l, x, z, m, h, hm => by
    obtain ⟨y, h1, h2⟩ := h.inv
    by_cases c : m = k
    · subst c
      exact ⟨[], l, x, y, rfl, .nil x, h1, h2⟩
    · obtain ⟨l1, l2, u, v, e, w1, w2, w3⟩ := h2.cut ((List.mem_cons.mp hm).resolve_left c)
      exact ⟨k :: l1, l2, u, v, by rw [e]; rfl, .cons h1 w1, w2, w3⟩
/-- a tie of a forest is on the way from a to b just if without it they are apart -/
theorem IsRing.mem_iff {ts : List (Int × Int)} {ms ns : List Int} {a b : Int} (h : IsRing ts ms a b ns) (hf : ringlessF (fun x => x) (pick ts ms) = true) (hn : ms.Nodup) (x : Int) : x ∈ ns ↔ x ∈ ms ∧ foldR (fun x => x) (pick ts (but x ms)) a ≠ foldR (fun x => x) (pick ts (but x ms)) b := by
  constructor
  · intro hx
    have hxm := h.mem x hx
    refine ⟨hxm, fun e => ?_⟩
    obtain ⟨l1, l2, u, v, el, w1, w2, w3⟩ := h.way.cut hx
    have hnd := h.nd
    rw [el] at hnd
    have hnd' := List.nodup_append.mp hnd
    have hx1 : ∀ m ∈ l1, m ∈ but x ms := fun m hm => mem_but.mpr ⟨h.mem m (by rw [el]; exact List.mem_append_left _ hm), hnd'.2.2 m hm x List.mem_cons_self⟩
    have hx2 : ∀ m ∈ l2, m ∈ but x ms := fun m hm => mem_but.mpr ⟨h.mem m (by rw [el]; exact List.mem_append_right _ (List.mem_cons_of_mem _ hm)), fun z => (List.nodup_cons.mp hnd'.2.1).1 (z ▸ hm)⟩
    have e1 := w1.joined hx1
    have e2 := w3.joined hx2
    have e3 : foldR (fun x => x) (pick ts (but x ms)) u = foldR (fun x => x) (pick ts (but x ms)) v := e1.symm.trans (e.trans e2.symm)
    have hp : (pick ts ms).Perm (pick ts (but x ms) ++ [ts.getD x.toNat (0, 0)]) := by
      rw [show [ts.getD x.toNat (0, 0)] = pick ts [x] from rfl, ← pick_append]
      exact (but_perm hn hxm).map _
    have ha := forest_apart hp hf
    rcases w2 with w2 | w2
    · rw [w2] at ha
      exact ha e3
    · rw [w2] at ha
      exact ha e3.symm
  · intro ⟨_, hne⟩
    by_cases c : x ∈ ns
    · exact c
    · exact absurd (h.way.joined fun m hm => mem_but.mpr ⟨h.mem m hm, fun z => c (by rw [← z]; exact hm)⟩) hne
end FF
namespace FF
open PySem PySem.Spec PyProof.Rows L2
variable [LT]
/-! ### a search along ties -/
theorem mem_nums {f : Int} : ∀ {i : Nat} {ws : List V} {k : Nat}, ws[k]? = some (.int f) → ((i + k : Nat) : Int) ∈ numsFrom f i ws := by
  intro i ws k h
  obtain ⟨hk, e⟩ := List.getElem?_eq_some_iff.mp h
  have e1 : ws = ws.take k ++ [V.int f] ++ ws.drop (k + 1) := take_rest h
  have app : ∀ (us : List V) (vs : List V) (i : Nat), ∀ x ∈ numsFrom f i us, x ∈ numsFrom f i (us ++ vs) := fun us vs => by
    induction vs generalizing us with
    | nil => intro i x hx; rw [List.append_nil]; exact hx
    | cons v vs ih =>
      intro i x hx
      rw [show us ++ v :: vs = (us ++ [v]) ++ vs by simp]
      refine ih _ i x ?_
      rw [nums_snoc]
      exact List.mem_append_left _ hx
  rw [e1]
  refine app _ _ i _ ?_
  rw [nums_snoc, if_pos rfl, List.length_take, Nat.min_eq_left (by omega)]
  exact List.mem_append_right _ List.mem_cons_self
end FF
namespace FF
open PySem PySem.Spec PyProof.Rows L2
variable [LT]
/-! ### pushes -/
theorem nums_nd (f : Int) : ∀ (i : Nat) (ws : List V), (numsFrom f i ws).Nodup
  | _, [] => List.nodup_nil
  | i, x :: r => by
    show ((if x = V.int f then [(i : Int)] else []) ++ numsFrom f (i + 1) r).Nodup
    rw [List.nodup_append]
    refine ⟨by split <;> simp, nums_nd f (i + 1) r, fun a ha b hb z => ?_⟩
    have := nums_bd f (i + 1) r b hb
    split at ha
    · have := List.mem_singleton.mp ha
      omega
    · cases ha
open Classical in
noncomputable def joinB (ts : List (Int × Int)) (ws : List V) (e : Int × Int) : Bool := decide (foldR (fun x => x) (layerOf ts ws e.2) (ts.getD e.1.toNat (0, 0)).1 = foldR (fun x => x) (layerOf ts ws e.2) (ts.getD e.1.toNat (0, 0)).2)
/-- the tie x is on the ring of the entry e -/
def OnRing (ts : List (Int × Int)) (ws : List V) (e : Int × Int) (x : Int) : Prop := x ∈ numsFrom e.2 0 ws ∧ foldR (fun x => x) (pick ts (but x (numsFrom e.2 0 ws))) (ts.getD e.1.toNat (0, 0)).1 ≠ foldR (fun x => x) (pick ts (but x (numsFrom e.2 0 ws))) (ts.getD e.1.toNat (0, 0)).2
open Classical in
noncomputable def pushB (ts : List (Int × Int)) (ws : List V) : List (Int × Int) → Bool
  | [] => true
  | [e] => !joinB ts ws e
  | e :: e' :: r => (joinB ts ws e && decide (OnRing ts ws e e'.1)) && pushB ts ws (e' :: r)
def layB (ws : List V) (e : Int × Int) : Bool := decide (ws[e.1.toNat]? = some (.int e.2))
end FF
namespace FF
open PySem PySem.Spec PyProof.Rows L2
variable [LT]
/-! ### zip of a list and a tuple, either way -/
end FF
namespace FF
open PySem PySem.Spec PyProof.Rows L2
variable [LT]
/-! ### t.count of a tuple of ints; l[i] op= e -/
section
variable {X : Cx} {K : PySem.W.Frag}
end
/-! ### outs of ways -/
theorem ext_hat {as bs : List Int} (hl : as.length = bs.length) (h : ∀ x : Int, 0 ≤ x → x < as.length → hat as x = hat bs x) : as = bs := by
  refine List.ext_getElem hl fun i h1 h2 => ?_
  have := h (i : Int) (by omega) (by omega)
  unfold hat at this
  rw [Int.toNat_natCast, List.getD_eq_getElem?_getD, List.getD_eq_getElem?_getD, List.getElem?_eq_getElem h1, List.getElem?_eq_getElem h2] at this
  exact this
end FF
namespace FF
open PySem PySem.Spec PyProof.Rows L2
variable [LT]
/-! ### tuples that are known to the object: methods can be asked of them -/
def TF (H : Hp) (a : Addr) (xs : List V) : Prop := ∃ o : Obj, H a = some (.frz o (.tup xs)) ∧ o.dict = none
theorem TF.sq {K : PySem.W.Frag} {H : Hp} {a : Addr} {xs : List V} (h : TF H a xs) : SqT K H a xs := by
  obtain ⟨o, e, _⟩ := h
  exact .inl (.inr ⟨o, e⟩)
theorem TF.ke {H H' : Hp} {a : Addr} {xs : List V} (h : TF H a xs) (k : Ke H H') : TF H' a xs := by
  obtain ⟨o, e, d⟩ := h
  exact ⟨o, k.at_ a _ e (fun _ z => nomatch z) fun z => z, d⟩
theorem TF.new {H : Hp} {p a : Addr} {o : HO} {xs : List V} (h : TF H a xs) (k : H p = none) : TF (upd H p o) a xs := h.ke (Ke.new k)
theorem TF.dk {H H' : Hp} {p a : Addr} {xs : List V} (h : TF H a xs) (k : Dk p H H') (d : Deck H p) : TF H' a xs := by
  obtain ⟨o, e, d'⟩ := h
  obtain ⟨ds, e2, _⟩ := d
  exact ⟨o, k.k.at_ a _ e (fun _ z => nomatch z) (ne_of e e2 (fun z => nomatch z)), d'⟩
theorem TF.put {H : Hp} {p a : Addr} {o : HO} {xs ys : List V} (h : TF H a xs) (k : H p = some (.lst ys)) : TF (upd H p o) a xs := by
  obtain ⟨o, e, d'⟩ := h
  exact ⟨o, by rw [upd_ne (ne_of e k (fun z => nomatch z))]; exact e, d'⟩
section
variable {X : Cx} {K : PySem.W.Frag}
variable {o e : Expr} {es : List Expr} {to : TE} {t : TA} {name : Str} {apos cpos : Pos} {id : String} {r : V → List V → Hp → VK → Prop}
end
/-! ### a thing: a tuple or not -/
inductive ThK (K : PySem.W.Frag) (H : Hp) : V → Option (List V) → Prop where
  | no {v : V} {nm : String} (h : TyN H v nm) (hn : nm ≠ "tuple") : ThK K H v none
  | yes {a : Addr} {xs : List V} (h : SqT K H a xs) (ht : TyX K H (.ref a) (.type "tuple")) (hx : ∀ x ∈ xs, ∃ n, TyN H x n) : ThK K H (.ref a) (some xs)
theorem Tpl.k {K : PySem.W.Frag} {H : Hp} {v : V} {o : Option (List V)} (h : Tpl H v o) : ThK K H v o := by
  cases h with
  | no h hn => exact .no h hn
  | yes h hx => exact .yes (sqT_of h) (TyN.tup h).x hx
theorem TF.k {K : PySem.W.Frag} {H : Hp} {a : Addr} {xs : List V} (h : TF H a xs) (hx : ∀ x ∈ xs, ∃ n, TyN H x n) : ThK K H (.ref a) (some xs) := by
  have h' := h.sq (K := K)
  obtain ⟨o, e, _⟩ := h
  exact .yes h' (.fTuple e) hx
theorem TF.ints {K : PySem.W.Frag} {H : Hp} {a : Addr} {ws : List Int} (h : TF H a (ws.map V.int)) : ThK K H (.ref a) (some (ws.map V.int)) := h.k (ty_ints ws)
theorem isi_yes {K : PySem.W.Frag} : PySem.W.kitOne K (.type "tuple") (.type "tuple") = some true := kit_ty (by decide +kernel)
/-! ### ways as things -/
def crowdO (n : Int) (ts : List (Int × Int)) (d : Int) (o : Option (List V)) : Bool := lotO n o && match o with
  | some xs => decide ((inside (intsOf xs) ts : Int) > d * (xs.length : Int))
  | none => false
theorem Lot.crowd {n : Int} {ls : List Int} (h : Lot n ls) (ts : List (Int × Int)) (d : Int) : crowdO n ts d (some (ls.map V.int)) = decide ((inside ls ts : Int) > d * (ls.length : Int)) := by
  show (lotO n (some (ls.map V.int)) && decide ((inside (intsOf (ls.map V.int)) ts : Int) > d * ((ls.map V.int).length : Int))) = _
  rw [h.o, Bool.true_and, intsOf_map, List.length_map]
end FF
namespace FF
open PySem PySem.Spec PyProof.Rows L2
variable [LT]
/-! ### a def whose last parameter has a default -/
structure DefAt1 (K : PySem.W.Frag) (mg : Str → Option Value) (x : Str) (st : Stmt) (ps : List Str) (dv : V) (f : Addr) (fd : FuncData) : Prop where
  F : FunD K x x (defArgs st) (defBody st) (defScope st) [dv] [] f fd
  g : mg x = some (.ref f)
  b : Binds K fd ps []
  b1 : ∃ ds, Vals [dv] ds ∧ Binds K fd ps ds
theorem DefAt1.ok {P : Program} {w : World} {K : PySem.W.Frag} {mg : Str → Option Value} {base : Heap} {x : Str} {st : Stmt} {dv : V} {f : Addr} {fd : FuncData} {N ps : List Str} {k : Nat} {sp : Sp} (D : DefAt1 K mg x st ps dv f fd) (S : FnScope N ps (defScope st)) (len : ∀ vs H Q E, sp vs H Q E → vs.length = ps.length)
    (hbody : ∀ (A : Around) (outer : List Env) (s : Shared) (H : Hp) (vs : List V) (Q : VK) (E : XK), Room k (A.deeper (envOfC x (defScope st) s.heap.objs.size f fd.code)) → sp vs H Q E →
      ∃ t, PSs (cxOf CX0 P w K mg base N x (defScope st) f fd.code A outer s H E).nox (defBody st) t ∧ t { nx := fun _ H' => Q .non H', rt := Q } (start N vs) H) : FnOk P w K mg base CX0 (k + 1) f fd ps sp := by
  obtain ⟨oc, od, dV, kV, doc, pm, an, cdv, ct, osl, rfl, lk, hcd, _, _⟩ := D.F.ex
  refine fn_of lk hcd S len fun A outer s H vs Q E hr hsp => ?_
  obtain ⟨t, h, q⟩ := hbody A outer s H vs Q E hr hsp
  exact ⟨t, h.nox, q⟩
theorem binds_all {K : PySem.W.Frag} {fd : FuncData} {ps : List Str} (h : ∃ ds, Vals [] ds ∧ Binds K fd ps ds) : Binds K fd ps [] := by
  obtain ⟨ds, hv, hb⟩ := h
  cases hv
  exact hb
end FF
namespace FF
open PySem PySem.Spec PyProof.Rows L2
variable [LT]
/-! ### data of tuples, to a depth -/
theorem Sh.up {k l : Nat} {d : PyData} (h : Sh k d) (hk : k ≤ l) : Sh l d := ⟨h.1, Nat.le_trans h.2 hk⟩
theorem eqv_list0 (ds : List PyData) : PyData.eqv (.list ds) (.list []) = ds.isEmpty := by
  cases ds <;> rfl
/-! ### ties in another order -/
/-! ### partings as things -/
/-! ### the greatest of some -/
def mx : List Int → Int
  | [] => 0
  | n :: ns => ns.foldl max n
theorem tie_of {n a b : Int} (a0 : 0 ≤ a) (a1 : a < n) (b0 : 0 ≤ b) (b1 : b < n) (h : a ≠ b) : TOk n [(if b < a then b else a, if b > a then b else a)] := by
  intro t ht
  rw [List.mem_singleton.mp ht]
  dsimp only
  split <;> split <;> omega
theorem eqvAll_ints : ∀ as bs : List Int, PyData.eqvAll (as.map PyData.int) (bs.map PyData.int) = decide (as = bs)
  | [], [] => by rw [PyData.eqvAll.eq_def]; rfl
  | [], b :: bs => by rw [PyData.eqvAll.eq_def]; rfl
  | a :: as, [] => by rw [PyData.eqvAll.eq_def]; rfl
  | a :: as, b :: bs => by
    rw [List.map_cons, List.map_cons, PyData.eqvAll, eqvAll_ints as bs, PyData.eqv]
    by_cases h : a = b
    · subst h
      by_cases g : as = bs
      · subst g; simp
      · rw [decide_eq_false g, decide_eq_false fun z => g (List.cons.inj z).2, Bool.and_false]
    · rw [decide_eq_false fun z => h (List.cons.inj z).1, show (a == b) = false by simpa using h, Bool.false_and]
end FF
namespace FF
open PySem PySem.Spec PyProof.Rows L2
variable [LT]
/-! ### how many are laid -/
end FF
namespace FF
open PySem PySem.Spec PyProof.Rows L2
variable [LT]
/-! ### rising tuples as things -/
/-! ### how many ties a forest has within a lot -/
theorem nub_glue {a b : Int} {hs : List Int} (ha : a ∈ hs) (hb : b ∈ hs) (h : a ≠ b) : (nub (hs.map fun x => if x = b then a else x)).length + 1 = (nub hs).length := by
  have e : (b :: nub (hs.map fun x => if x = b then a else x)).length = (nub hs).length := by
    refine nd_eq (List.nodup_cons.mpr ⟨fun z => ?_, nub_nd _⟩) (nub_nd _) fun x => ?_
    · rw [mem_nub] at z
      obtain ⟨y, hy, e⟩ := List.mem_map.mp z
      split at e
      · exact h e
      · rename_i hn
        exact hn e
    · rw [mem_nub, List.mem_cons, mem_nub]
      constructor
      · rintro (rfl | hx)
        · exact hb
        · obtain ⟨y, hy, e⟩ := List.mem_map.mp hx
          split at e
          · exact e ▸ ha
          · exact e ▸ hy
      · intro hx
        by_cases e : x = b
        · exact .inl e
        · exact .inr (List.mem_map.mpr ⟨x, hx, by rw [if_neg e]⟩)
  rw [← e, List.length_cons]
theorem lot_count {ls : List Int} : ∀ {ts : List (Int × Int)} {r : Int → Int}, ringlessF r ts = true → (∀ t ∈ ts, t.1 ∈ ls ∧ t.2 ∈ ls) → ts.length + (nub (ls.map (foldR r ts))).length = (nub (ls.map r)).length
  | [], r, _, _ => Nat.zero_add _
  | t :: ts, r, h, hm => by
    obtain ⟨h1, h2⟩ := hm t List.mem_cons_self
    have h : (if r t.1 = r t.2 then false else ringlessF (rstep r t) ts) = true := h
    have e : r t.1 ≠ r t.2 := fun z => by rw [if_pos z] at h; cases h
    rw [if_neg e] at h
    have hr := h
    have ih := lot_count (ls := ls) hr fun t' h' => hm t' (List.mem_cons_of_mem _ h')
    have g := nub_glue (hs := ls.map r) (List.mem_map.mpr ⟨_, h1, rfl⟩) (List.mem_map.mpr ⟨_, h2, rfl⟩) e
    have em : (ls.map r).map (fun x => if x = r t.2 then r t.1 else x) = ls.map (rstep r t) := by
      rw [List.map_map]
      rfl
    rw [em] at g
    have ih : ts.length + (nub (ls.map (foldR (rstep r t) ts))).length = (nub (ls.map (rstep r t))).length := ih
    show ts.length + 1 + (nub (ls.map (foldR (rstep r t) ts))).length = _
    omega
theorem lot_count_le {ls : List Int} {ts : List (Int × Int)} (h : ringlessF (fun x => x) ts = true) (hm : ∀ t ∈ ts, t.1 ∈ ls ∧ t.2 ∈ ls) (hn : ls.Nodup) (he : ls ≠ []) : ts.length + 1 ≤ ls.length := by
  have := lot_count h hm
  rw [List.map_id', nub_of_nd hn] at this
  have h1 : 0 < (nub (ls.map (foldR (fun x => x) ts))).length := by
    cases ls with
    | nil => exact absurd rfl he
    | cons x r =>
      have : foldR (fun x => x) ts x ∈ nub ((x :: r).map (foldR (fun x => x) ts)) := (mem_nub _ _).mpr List.mem_cons_self
      exact List.length_pos_of_mem this
  omega
theorem ringlessF_filter (p : Int × Int → Bool) {L : List (Int × Int)} (h : ringlessF (fun x => x) L = true) : ringlessF (fun x => x) (L.filter p) = true := by
  have hp : L.Perm (L.filter p ++ L.filter fun t => !p t) := (List.filter_append_perm p L).symm
  rw [ringlessF_perm hp] at h
  cases e : ringlessF (fun x => x) (L.filter p) with
  | true => rfl
  | false => rw [ringlessF_bad _ _ _ e] at h; cases h
/-- a forest has at most so many ties within a lot -/
theorem inside_forest {ls : List Int} {L : List (Int × Int)} (h : ringlessF (fun x => x) L = true) (hn : ls.Nodup) (he : ls ≠ []) : inside ls L + 1 ≤ ls.length := by
  refine lot_count_le (ringlessF_filter _ h) (fun t ht => ?_) hn he
  have := (List.mem_filter.mp ht).2
  rw [Bool.and_eq_true, decide_eq_true_eq, decide_eq_true_eq] at this
  exact this
end FF
namespace FF
open PySem PySem.Spec PyProof.Rows L2
variable [LT]
/-! ### laid ties, and how many of them lie within a lot -/
def laidM (ws : List V) (ms : List Int) : List Int := ms.filter fun m => !decide (ws.getD m.toNat .non = V.non)
def laidT (ts : List (Int × Int)) (ws : List V) : List (Int × Int) := ((ts.zip ws).filter fun p => !decide (p.2 = V.non)).map Prod.fst
theorem laidT_snoc {ts : List (Int × Int)} {ws : List V} (h : ts.length = ws.length) (t : Int × Int) (x : V) : laidT (ts ++ [t]) (ws ++ [x]) = laidT ts ws ++ if (!decide (x = V.non)) = true then [t] else [] := by
  unfold laidT
  rw [List.zip_append h, List.filter_append, List.map_append]
  congr 1
  show (List.filter (fun p : (Int × Int) × V => !decide (p.2 = V.non)) [(t, x)]).map Prod.fst = _
  rw [List.filter_cons]
  dsimp only
  split <;> rfl
theorem pick_laid {ts : List (Int × Int)} {ws : List V} (h : ws.length = ts.length) : ∀ i : Nat, i ≤ ts.length → pick ts (laidM ws (upTo i)) = laidT (ts.take i) (ws.take i)
  | 0, _ => rfl
  | i + 1, hi => by
    have ih := pick_laid h i (by omega)
    have e1 : ts[i]? = some (ts.getD i (0, 0)) := by rw [List.getD_eq_getElem?_getD, List.getElem?_eq_getElem (show i < ts.length by omega)]; rfl
    have e2 : ws[i]? = some (ws.getD i .non) := by rw [List.getD_eq_getElem?_getD, List.getElem?_eq_getElem (show i < ws.length by omega)]; rfl
    rw [take_next e1, take_next e2, laidT_snoc (by rw [List.length_take, List.length_take]; omega), ← ih]
    rw [show ((i + 1 : Nat) : Int) = (i : Int) + 1 by omega, upTo_snoc]
    unfold laidM
    rw [List.filter_append, pick_append]
    congr 1
    rw [List.filter_cons, Int.toNat_natCast]
    split
    · rw [List.filter_nil]
      rfl
    · rfl
theorem layerOf_cons (t : Int × Int) (ts : List (Int × Int)) (x : V) (ws : List V) (f : Int) : layerOf (t :: ts) (x :: ws) f = (if x = V.int f then [t] else []) ++ layerOf ts ws f := by
  unfold layerOf
  rw [List.zip_cons_cons, List.filter_cons]
  dsimp only
  by_cases e : x = V.int f
  · rw [if_pos e, if_pos (decide_eq_true e)]; rfl
  · rw [if_neg e, if_neg (by rw [decide_eq_false e]; decide)]; rfl
theorem laidT_cons (t : Int × Int) (ts : List (Int × Int)) (x : V) (ws : List V) : laidT (t :: ts) (x :: ws) = (if x = V.non then [] else [t]) ++ laidT ts ws := by
  unfold laidT
  rw [List.zip_cons_cons, List.filter_cons]
  dsimp only
  by_cases e : x = V.non
  · rw [if_pos e, if_neg (by rw [decide_eq_true e]; decide)]; rfl
  · rw [if_neg e, if_pos (by rw [decide_eq_false e]; rfl)]; rfl
theorem inside_app (ls : List Int) (ts us : List (Int × Int)) : inside ls (ts ++ us) = inside ls ts + inside ls us := by
  unfold inside
  rw [List.filter_append, List.length_append]
/-- the laid ties within a lot, forest by forest -/
theorem inside_laid {k : Int} (ls : List Int) : ∀ {ts : List (Int × Int)} {ws : List V}, ws.length = ts.length → (∀ x ∈ ws, x = V.non ∨ ∃ f, x = V.int f ∧ 0 ≤ f ∧ f < k) → (inside ls (laidT ts ws) : Int) = ((upTo k).map fun f => (inside ls (layerOf ts ws f) : Int)).sum
  | [], [], _, _ => by
    have : ∀ f ∈ upTo k, (fun f => (inside ls (layerOf [] [] f) : Int)) f = 0 := fun f _ => rfl
    exact (sum_zero _ this).symm
  | t :: ts, x :: ws, hl, hx => by
    have ih := inside_laid ls (ts := ts) (ws := ws) (Nat.succ.inj hl) fun y hy => hx y (List.mem_cons_of_mem _ hy)
    have e : (fun f => (inside ls (layerOf (t :: ts) (x :: ws) f) : Int)) = fun f => (inside ls (if x = V.int f then [t] else []) : Int) + (inside ls (layerOf ts ws f) : Int) := by
      funext f
      rw [layerOf_cons, inside_app, Int.natCast_add]
    rw [e, sum_add, laidT_cons, inside_app, Int.natCast_add, ih]
    congr 1
    rcases hx x List.mem_cons_self with rfl | ⟨f, rfl, f0, f1⟩
    · rw [if_pos rfl]
      refine (sum_zero _ fun f _ => ?_).symm
      rw [if_neg (fun z => nomatch z)]
      rfl
    · rw [if_neg (fun z => nomatch z)]
      rw [sum_one (m := f) _ (upTo_nd k) (upTo_mem.mpr ⟨f0, f1⟩) fun y _ hy => ?_]
      · rw [if_pos rfl]
      · rw [if_neg fun z => hy (V.int.inj z).symm]
        rfl
theorem sum_most {s : Int} {g : Int → Int} : ∀ {l : List Int}, (∀ x ∈ l, g x ≤ s) → (l.map g).sum ≤ l.length * s ∧ ((l.map g).sum = l.length * s ↔ ∀ x ∈ l, g x = s)
  | [], _ => by simp
  | x :: l, h => by
    obtain ⟨i1, i2⟩ := sum_most (l := l) fun y hy => h y (List.mem_cons_of_mem _ hy)
    have hx := h x List.mem_cons_self
    have e : ((x :: l).length : Int) * s = (l.length : Int) * s + s := by
      rw [List.length_cons, Int.natCast_add, Int.add_mul]
      show _ + 1 * s = _
      rw [Int.one_mul]
    rw [List.map_cons, List.sum_cons, e]
    generalize (l.length : Int) * s = c at *
    refine ⟨by omega, fun z y hy => ?_, fun z => ?_⟩
    · have h1 : (l.map g).sum = c := by omega
      rcases List.mem_cons.mp hy with rfl | hy
      · omega
      · exact i2.mp h1 y hy
    · have h1 := i2.mpr fun y hy => z y (List.mem_cons_of_mem _ hy)
      have h2 := z x List.mem_cons_self
      omega
/-- a laying's forests, and none beyond k -/
structure LayK (ts : List (Int × Int)) (k : Int) (ws : List V) : Prop where
  len : ws.length = ts.length
  each : ∀ x ∈ ws, x = V.non ∨ ∃ f, x = V.int f ∧ 0 ≤ f ∧ f < k
  tree : ∀ f, ringlessF (fun x => x) (layerOf ts ws f) = true
theorem LayK.isO {ts : List (Int × Int)} {k : Int} {ws : List V} (h : LayK ts k ws) : ∀ x ∈ ws, IsO x := fun x hx => (h.each x hx).elim .inl fun ⟨f, e, _⟩ => .inr ⟨f, e⟩
theorem LayK.more {ts : List (Int × Int)} {k k' : Int} {ws : List V} (h : LayK ts k ws) (hk : k ≤ k') : LayK ts k' ws := ⟨h.len, fun x hx => (h.each x hx).imp id fun ⟨f, e, f0, f1⟩ => ⟨f, e, f0, Int.lt_of_lt_of_le f1 hk⟩, h.tree⟩
theorem tight_iff {ts : List (Int × Int)} {k : Int} {ws : List V} (h : LayK ts k ws) (hk : 0 ≤ k) {ls : List Int} (hn : ls.Nodup) (he : ls ≠ []) : ((inside ls (laidT ts ws) : Int) = k * ((ls.length : Int) - 1)) ↔ ∀ f, 0 ≤ f → f < k → (inside ls (layerOf ts ws f) : Int) = (ls.length : Int) - 1 := by
  rw [inside_laid ls h.len h.each]
  have hm := sum_most (s := (ls.length : Int) - 1) (g := fun f => (inside ls (layerOf ts ws f) : Int)) (l := upTo k) fun f _ => by
    have := inside_forest (h.tree f) hn he
    show (inside ls (layerOf ts ws f) : Int) ≤ _
    omega
  have hl : ((upTo k).length : Int) = k := by rw [upTo_length]; omega
  rw [hl] at hm
  rw [hm.2]
  exact ⟨fun z f f0 f1 => z f (upTo_mem.mpr ⟨f0, f1⟩), fun z f hf => z f (upTo_mem.mp hf).1 (upTo_mem.mp hf).2⟩
/-! ### all lots -/
def lotsF : Nat → List (List Int)
  | 0 => [[]]
  | n + 1 => lotsF n ++ (lotsF n).map fun l => l ++ [(n : Int)]
theorem lotsF_len : ∀ n : Nat, (lotsF n).length = 2 ^ n
  | 0 => rfl
  | n + 1 => by
    show (lotsF n ++ (lotsF n).map _).length = _
    rw [List.length_append, List.length_map, lotsF_len n, Nat.pow_succ]
    omega
theorem lotsF_ok : ∀ (n : Nat) (l : List Int), l ∈ lotsF n → l.Pairwise (· < ·) ∧ (∀ x ∈ l, 0 ≤ x ∧ x < (n : Int)) ∧ l.length ≤ n
  | 0, l, h => by
    rw [List.mem_singleton.mp h]
    exact ⟨.nil, (fun _ z => nomatch z), Nat.le_refl _⟩
  | n + 1, l, h => by
    rcases List.mem_append.mp (show l ∈ lotsF n ++ (lotsF n).map fun l => l ++ [(n : Int)] from h) with h | h
    · obtain ⟨h1, h2, h3⟩ := lotsF_ok n l h
      exact ⟨h1, fun x hx => by have := h2 x hx; omega, by omega⟩
    · obtain ⟨l', h', rfl⟩ := List.mem_map.mp h
      obtain ⟨h1, h2, h3⟩ := lotsF_ok n l' h'
      refine ⟨?_, fun x hx => ?_, by rw [List.length_append]; exact Nat.succ_le_succ h3⟩
      · rw [List.pairwise_append]
        exact ⟨h1, List.pairwise_singleton _ _, fun a ha b hb => by rw [List.mem_singleton.mp hb]; exact (h2 a ha).2⟩
      · rcases List.mem_append.mp hx with hx | hx
        · have := h2 x hx; omega
        · rw [List.mem_singleton.mp hx]; omega
theorem lotsF_all : ∀ (n : Nat) {l : List Int}, l.Pairwise (· < ·) → (∀ x ∈ l, 0 ≤ x ∧ x < (n : Int)) → l ∈ lotsF n
  | 0, l, _, h => by
    cases l with
    | nil => exact List.mem_singleton.mpr rfl
    | cons x r => have := h x List.mem_cons_self; omega
  | n + 1, l, hp, h => by
    show l ∈ lotsF n ++ (lotsF n).map fun l => l ++ [(n : Int)]
    by_cases hn : (n : Int) ∈ l
    · refine List.mem_append_right _ (List.mem_map.mpr ⟨l.filter fun x => decide (x < n), lotsF_all n (hp.filter _) (fun x hx => ?_), ?_⟩)
      · have h1 := (List.mem_filter.mp hx)
        have := of_decide_eq_true h1.2
        exact ⟨(h x h1.1).1, this⟩
      · refine up_same ?_ hp fun x => ?_
        · rw [List.pairwise_append]
          exact ⟨hp.filter _, List.pairwise_singleton _ _, fun a ha b hb => by rw [List.mem_singleton.mp hb]; exact of_decide_eq_true (List.mem_filter.mp ha).2⟩
        · rw [List.mem_append, List.mem_filter, List.mem_singleton, decide_eq_true_eq]
          constructor
          · rintro (⟨a, _⟩ | rfl)
            · exact a
            · exact hn
          · intro hx
            have := h x hx
            by_cases e : x = n
            · exact .inr e
            · exact .inl ⟨hx, by omega⟩
    · refine List.mem_append_left _ (lotsF_all n hp fun x hx => ?_)
      have := h x hx
      have : x ≠ n := fun z => hn (z ▸ hx)
      omega
def LsL (H : Hp) (rs : List V) (pss : List (List Int)) : Prop := Paired (fun (r : V) (ls : List Int) => ∃ q, r = .ref q ∧ H q = some (.lst (ls.map V.int))) rs pss
theorem LsL.mono {H H' : Hp} {rs : List V} {pss : List (List Int)} (h : LsL H rs pss) (k : ∀ q xs, H q = some (.lst xs) → H' q = some (.lst xs)) : LsL H' rs pss := L2.Paired.mapP h fun _ _ ⟨q, e, z⟩ => ⟨q, e, k q _ z⟩
theorem LsL.ke {H H' : Hp} {rs : List V} {pss : List (List Int)} (h : LsL H rs pss) (k : Ke H H') : LsL H' rs pss := h.mono fun _ _ => k.lst
theorem LsL.length {H : Hp} {rs : List V} {pss : List (List Int)} (h : LsL H rs pss) : rs.length = pss.length := Paired.length h
theorem LsL.append {H : Hp} : ∀ {rs qs : List V} {ps us : List (List Int)}, LsL H rs ps → LsL H qs us → LsL H (rs ++ qs) (ps ++ us)
  | _, _, _, _, .nil, g => g
  | _, _, _, _, .cons h t, g => .cons h (LsL.append t g)
theorem LsL.one {H : Hp} {q : Addr} {ls : List Int} (h : H q = some (.lst (ls.map V.int))) : LsL H [.ref q] [ls] := .cons ⟨q, rfl, h⟩ .nil
theorem LsL.get {H : Hp} : ∀ {rs : List V} {ps : List (List Int)} {i : Nat} {r : V}, LsL H rs ps → rs[i]? = some r → ∃ ls q, ps[i]? = some ls ∧ r = .ref q ∧ H q = some (.lst (ls.map V.int))
  | _, _, 0, _, .cons ⟨q, e, z⟩ _, h => by cases h; exact ⟨_, q, rfl, e, z⟩
  | _, _, i + 1, _, .cons _ t, h => by
    have h : _ = some _ := h
    obtain ⟨ls, q, e, er, hq⟩ := LsL.get (i := i) t h
    exact ⟨ls, q, e, er, hq⟩
theorem Lots.tys {H : Hp} {rs : List V} {pss : List (List Int)} (h : Lots H rs pss) : ∀ r ∈ rs, ∃ ls q, ls ∈ pss ∧ r = .ref q ∧ H q = some (.tup (ls.map V.int)) := fun r hr => by
  obtain ⟨i, hi⟩ := List.mem_iff_getElem?.mp hr
  obtain ⟨ls, q, e, er, hq⟩ := h.get hi
  exact ⟨ls, q, List.mem_of_getElem? e, er, hq⟩
theorem ringlessF_sub {L L' : List (Int × Int)} (s : L'.Sublist L) (h : ringlessF (fun x => x) L = true) : ringlessF (fun x => x) L' = true := by
  obtain ⟨r, hp⟩ := s.exists_perm_append
  rw [ringlessF_perm hp] at h
  cases e : ringlessF (fun x => x) L' with
  | true => rfl
  | false => rw [ringlessF_bad _ _ _ e] at h; cases h
theorem Less.layer {f : Int} : ∀ {ts : List (Int × Int)} {zs ws : List V}, Less zs ws → (layerOf ts zs f).Sublist (layerOf ts ws f)
  | [], zs, ws, _ => by
    unfold layerOf
    rw [List.zip_nil_left]
    exact List.nil_sublist _
  | t :: ts, [], ws, h => by
    unfold layerOf
    rw [List.zip_nil_right]
    exact List.nil_sublist _
  | t :: ts, z :: zs, [], h => by have := h.len; simp at this
  | t :: ts, z :: zs, x :: ws, h => by
    have h' : Less zs ws := ⟨by have := h.len; simpa using this, fun i z' x' e1 e2 => h.each (i + 1) z' x' e1 e2⟩
    have ih := Less.layer (f := f) (ts := ts) h'
    rw [layerOf_cons, layerOf_cons]
    refine List.Sublist.append ?_ ih
    rcases h.each 0 z x rfl rfl with rfl | rfl
    · exact .refl _
    · rw [if_neg (fun z => nomatch z)]
      exact List.nil_sublist _
theorem Laid.k {ts : List (Int × Int)} {m : Int} {ws : List V} (h : Laid ts m ws) : LayK ts m ws := ⟨h.len, fun x hx => .inr (h.num x hx), h.tree⟩
theorem LayK.less {ts : List (Int × Int)} {k : Int} {zs ws : List V} (h : LayK ts k ws) (l : Less zs ws) : LayK ts k zs := by
  refine ⟨l.len.trans h.len, fun z hz => ?_, fun f => ringlessF_sub l.layer (h.tree f)⟩
  obtain ⟨i, hi⟩ := List.mem_iff_getElem?.mp hz
  have hlt : i < ws.length := by
    have := (List.getElem?_eq_some_iff.mp hi).1
    have := l.len
    omega
  rcases l.each i z _ hi (List.getElem?_eq_getElem hlt) with e | e
  · rw [e]
    exact h.each _ (List.getElem_mem hlt)
  · exact .inl e
theorem layerOf_nons (ts : List (Int × Int)) (f : Int) : ∀ m : Nat, layerOf ts (List.replicate m .non) f = [] := fun m => by
  unfold layerOf
  rw [List.map_eq_nil_iff, List.filter_eq_nil_iff]
  intro p hp
  have := (List.of_mem_zip (a := p.1) (b := p.2) hp).2
  rw [List.eq_of_mem_replicate this]
  exact fun z => nomatch of_decide_eq_true z
theorem LayK.none (ts : List (Int × Int)) {k : Int} : LayK ts k (List.replicate ts.length .non) := ⟨List.length_replicate, fun x hx => .inl (List.eq_of_mem_replicate hx), fun f => by rw [layerOf_nons]; rfl⟩
theorem inside_one {ts : List (Int × Int)} {n x : Int} (ok : TOk n ts) : inside [x] ts = 0 := by
  unfold inside
  rw [List.length_eq_zero_iff, List.filter_eq_nil_iff]
  intro t ht
  have := ok t ht
  rw [Bool.and_eq_true, decide_eq_true_eq, decide_eq_true_eq, List.mem_singleton, List.mem_singleton]
  omega
theorem LsL.put {H : Hp} {D : Addr} {o : HO} {rs : List V} {pss : List (List Int)} (h : LsL H rs pss) (hn : V.ref D ∉ rs) : LsL (upd H D o) rs pss := by
  induction h with
  | nil => exact .nil
  | cons h _ ih =>
    obtain ⟨q, rfl, hq⟩ := h
    refine .cons ⟨q, rfl, ?_⟩ (ih fun z => hn (List.mem_cons_of_mem _ z))
    rw [upd_ne fun z => hn (by rw [z]; exact List.mem_cons_self)]
    exact hq
/-- points and a list of ties -/
def WebL (H : Hp) (v : V) (n : Int) (ts : List (Int × Int)) : Prop := ∃ t u rs, v = .ref t ∧ H t = some (.tup [.int n, .ref u]) ∧ H u = some (.lst rs) ∧ Ties H rs ts
theorem Lot.nd {n : Int} {ls : List Int} (h : Lot n ls) : ls.Nodup := h.up.imp fun z => by omega
end FF
namespace FF
open PySem PySem.Spec PyProof.Rows L2
variable [LT]
/-! ### trees -/
theorem LayK.o {ts : List (Int × Int)} {k : Int} {ws : List V} (h : LayK ts k ws) : layO ts k (some ws) = true := layO_good h.len (fun x hx => by
  rcases h.each x hx with rfl | ⟨f, rfl, f0, f1⟩
  · rfl
  · show (decide (0 ≤ f) && decide (f ≤ k - 1)) = true
    rw [decide_eq_true f0, decide_eq_true (by omega : f ≤ k - 1)]; rfl) fun f _ => h.tree f
/-! ### ties with their forests -/
/-! ### rows of a tie and its forest, in the heap -/
theorem paired_get {α β : Type} {R : α → β → Prop} : ∀ {xs : List α} {ys : List β} {i : Nat} {x : α}, Paired R xs ys → xs[i]? = some x → ∃ y, ys[i]? = some y ∧ R x y
  | _, _, _, _, .nil, e => by simp at e
  | _, _, 0, _, .cons (b := y) h _, e => by simp at e; subst e; exact ⟨y, rfl, h⟩
  | _, _, i + 1, x, .cons _ t, e => by
    obtain ⟨y, h1, h2⟩ := paired_get (i := i) (x := x) t (by simpa using e)
    exact ⟨y, by simpa using h1, h2⟩
end FF
namespace FF
open PySem PySem.Spec PyProof.Rows L2
variable [LT]
theorem LayK.snocN {ts : List (Int × Int)} {k : Int} {ws : List V} {t : Int × Int} (h : LayK ts k ws) : LayK (ts ++ [t]) k (ws ++ [.non]) := by
  have hl := h.len
  refine ⟨by rw [List.length_append, List.length_append, hl]; rfl, fun x hx => ?_, fun g => ?_⟩
  · rcases List.mem_append.mp hx with hx | hx
    · exact h.each x hx
    · exact .inl (List.mem_singleton.mp hx)
  · rw [layerOf_snoc hl.symm, if_neg (fun z => nomatch z), List.append_nil]
    exact h.tree g
theorem LayK.nil {k : Int} : LayK [] k [] := ⟨rfl, (fun _ z => nomatch z), fun _ => rfl⟩
section
variable {X : Cx} {K : PySem.W.Frag} {a b : Expr} {ta tb : TE} {rest : List Expr} {pos : Pos}
end
theorem zip_erase {α β : Type} : ∀ (xs : List α) (ys : List β) (g : Nat), xs.length = ys.length → (xs.eraseIdx g).zip (ys.eraseIdx g) = (xs.zip ys).eraseIdx g
  | [], [], _, _ => rfl
  | x :: xs, y :: ys, 0, _ => rfl
  | x :: xs, y :: ys, g + 1, h => by
    show (x, y) :: (xs.eraseIdx g).zip (ys.eraseIdx g) = (x, y) :: (xs.zip ys).eraseIdx g
    rw [zip_erase xs ys g (Nat.succ.inj h)]
  | [], _ :: _, _, h => by cases h
  | _ :: _, [], _, h => by cases h
theorem LayK.erase {ts : List (Int × Int)} {k : Int} {ws : List V} (h : LayK ts k ws) {g : Nat} (hg : g < ts.length) : LayK (ts.eraseIdx g) k (ws.eraseIdx g) := by
  have hl := h.len
  refine ⟨by rw [List.length_eraseIdx, List.length_eraseIdx, if_pos hg, if_pos (by omega), hl], fun x hx => h.each x (List.mem_of_mem_eraseIdx hx), fun f => ringlessF_sub ?_ (h.tree f)⟩
  unfold layerOf
  rw [zip_erase ts ws g hl.symm]
  exact ((List.eraseIdx_sublist _ _).filter _).map _
theorem Ties.erase {H : Hp} : ∀ {rs : List V} {ts : List (Int × Int)} (g : Nat), Ties H rs ts → Ties H (rs.eraseIdx g) (ts.eraseIdx g)
  | _, _, _, .nil => .nil
  | _, _, 0, .cons _ t => t
  | _, _, g + 1, .cons h t => .cons h (Ties.erase g t)
end FF
namespace FF
open PySem PySem.Spec PyProof.Rows L2
variable [LT]
/-! ### exchanges in forests -/
abbrev tk (ts : List (Int × Int)) (a : Int) : Int × Int := ts.getD a.toNat (0, 0)
abbrev jn (ts : List (Int × Int)) (ms : List Int) (x y : Int) : Prop := foldR (fun x => x) (pick ts ms) x = foldR (fun x => x) (pick ts ms) y
theorem way_of {ts : List (Int × Int)} : ∀ (n : Nat) (ms : List Int), ms.length = n → ms.Nodup → ∀ x y, jn ts ms x y → ∃ ns, Way ts x ns y ∧ ns.Nodup ∧ ∀ m ∈ ns, m ∈ ms
  | 0, ms, hl, _, x, y, h => by
    have : ms = [] := List.length_eq_zero_iff.mp hl
    subst this
    have h : x = y := h
    subst h
    exact ⟨[], .nil x, List.nodup_nil, fun _ z => nomatch z⟩
  | n + 1, ms, hl, hnd, x, y, h => by
    have hne : ms ≠ [] := fun z => by rw [z] at hl; cases hl
    obtain ⟨is, m, rfl⟩ : ∃ is m, ms = is ++ [m] := ⟨ms.dropLast, ms.getLast hne, (List.dropLast_concat_getLast hne).symm⟩
    have hnd' := List.nodup_append.mp hnd
    have hmi : m ∉ is := fun z => hnd'.2.2 m z m List.mem_cons_self rfl
    have hil : is.length = n := by rw [List.length_append] at hl; exact Nat.succ.inj hl
    have ih := way_of (ts := ts) n is hil hnd'.1
    by_cases c : jn ts is x y
    · obtain ⟨ns, w, nd, hm⟩ := ih x y c
      exact ⟨ns, w, nd, fun k hk => List.mem_append_left _ (hm k hk)⟩
    have e : foldR (fun x => x) (pick ts (is ++ [m])) = rstep (foldR (fun x => x) (pick ts is)) (tk ts m) := by rw [pick_append]; exact foldR_snoc _ _ _
    unfold jn at h
    rw [e] at h
    -- a way over m
    have go : ∀ u v p q, jn ts is u p → jn ts is q v → ¬ jn ts is u v → Leads ts m p q → ∃ ns, Way ts u ns v ∧ ns.Nodup ∧ ∀ k ∈ ns, k ∈ is ++ [m] := fun u v p q h1 h2 h3 hL => by
      obtain ⟨n1, w1, d1, s1⟩ := ih u p h1
      obtain ⟨n2, w2, d2, s2⟩ := ih q v h2
      refine ⟨n1 ++ m :: n2, w1.append (.cons hL w2), ?_, fun k hk => ?_⟩
      · rw [List.nodup_append, List.nodup_cons]
        refine ⟨d1, ⟨fun z => hmi (s2 m z), d2⟩, fun a ha b hb => ?_⟩
        rcases List.mem_cons.mp hb with rfl | hb
        · exact fun z => hmi (z ▸ s1 a ha)
        · rintro rfl
          obtain ⟨l1, l2, u1, v1, el, x1, x2, x3⟩ := w1.cut ha
          obtain ⟨k1, k2, u2, v2, ek, z1, z2, z3⟩ := w2.cut hb
          have e1 : jn ts is u u1 := x1.joined fun k hk => s1 k (by rw [el]; exact List.mem_append_left _ hk)
          have e2 : jn ts is v2 v := z3.joined fun k hk => s2 k (by rw [ek]; exact List.mem_append_right _ (List.mem_cons_of_mem _ hk))
          have e3 : jn ts is u2 v2 := z2.foldR (s2 a hb)
          have e4 : jn ts is u1 v1 := x2.foldR (s1 a ha)
          have e5 : jn ts is u1 v2 := by
            rcases x2 with x2 | x2 <;> rcases z2 with z2 | z2 <;> rw [x2] at z2
            · cases z2; exact e4
            · have := Prod.mk.inj z2; rw [this.1]
            · have := Prod.mk.inj z2; rw [← this.2]
            · cases z2; exact e4
          exact h3 (e1.trans (e5.trans e2))
      · rcases List.mem_append.mp hk with hk | hk
        · exact List.mem_append_left _ (s1 k hk)
        · rcases List.mem_cons.mp hk with rfl | hk
          · exact List.mem_append_right _ List.mem_cons_self
          · exact List.mem_append_left _ (s2 k hk)
    have h : (if foldR (fun x => x) (pick ts is) x = foldR (fun x => x) (pick ts is) (tk ts m).2 then foldR (fun x => x) (pick ts is) (tk ts m).1 else foldR (fun x => x) (pick ts is) x) = (if foldR (fun x => x) (pick ts is) y = foldR (fun x => x) (pick ts is) (tk ts m).2 then foldR (fun x => x) (pick ts is) (tk ts m).1 else foldR (fun x => x) (pick ts is) y) := h
    by_cases c1 : jn ts is x (tk ts m).2
    · by_cases c2 : jn ts is y (tk ts m).2
      · exact absurd (c1.trans c2.symm) c
      · rw [if_pos c1, if_neg c2] at h
        exact go x y (tk ts m).2 (tk ts m).1 c1 h c (.inr rfl)
    · by_cases c2 : jn ts is y (tk ts m).2
      · rw [if_neg c1, if_pos c2] at h
        exact go x y (tk ts m).1 (tk ts m).2 h c2.symm c (.inl rfl)
      · rw [if_neg c1, if_neg c2] at h
        exact absurd h c
theorem ring_exists {ts : List (Int × Int)} {ms : List Int} (hn : ms.Nodup) {x y : Int} (h : jn ts ms x y) : ∃ ns, IsRing ts ms x y ns := by
  obtain ⟨ns, w, nd, hm⟩ := way_of _ ms rfl hn x y h
  exact ⟨ns, w, nd, hm⟩
/-- a forest: its ties by their numbers -/
structure Fo (ts : List (Int × Int)) (ms : List Int) : Prop where
  nd : ms.Nodup
  rl : ringlessF (fun x => x) (pick ts ms) = true
/-- x is on the ring that a closes in ms -/
def OnR (ts : List (Int × Int)) (ms : List Int) (a x : Int) : Prop := x ∈ ms ∧ ¬ jn ts (but x ms) (tk ts a).1 (tk ts a).2
theorem Fo.same {ts : List (Int × Int)} {ms ns : List Int} (h : Fo ts ms) (hn : ns.Nodup) (hm : ∀ x, x ∈ ns ↔ x ∈ ms) : Fo ts ns := by
  have p : ns.Perm ms := (List.perm_ext_iff_of_nodup hn h.nd).mpr hm
  refine ⟨hn, ?_⟩
  exact (ringlessF_perm (show (pick ts ns).Perm (pick ts ms) from p.map _) _).trans h.rl
theorem Fo.but {ts : List (Int × Int)} {ms : List Int} (h : Fo ts ms) (b : Int) : Fo ts (but b ms) :=
  ⟨h.nd.filter _, ringlessF_sub (List.filter_sublist.map _) h.rl⟩
theorem Fo.add {ts : List (Int × Int)} {ms : List Int} {a : Int} (h : Fo ts ms) (ha : a ∉ ms) (hj : ¬ jn ts ms (tk ts a).1 (tk ts a).2) : Fo ts (ms ++ [a]) := by
  refine ⟨?_, ?_⟩
  · rw [List.nodup_append]
    exact ⟨h.nd, by simp, fun x hx y hy => by rw [List.mem_singleton.mp hy]; exact fun z => ha (z ▸ hx)⟩
  · rw [pick_append]
    show ringlessF _ (pick ts ms ++ [tk ts a]) = true
    rw [ringlessF_more h.rl, decide_eq_false hj]
    rfl
theorem jn_sub {ts : List (Int × Int)} {ms ns : List Int} (h : ∀ x ∈ ms, x ∈ ns) {x y : Int} (hj : jn ts ms x y) : jn ts ns x y := foldR_sub (fun t ht => by
  obtain ⟨m, hm, rfl⟩ := List.mem_map.mp ht
  exact List.mem_map.mpr ⟨m, h m hm, rfl⟩) x y hj
theorem OnR.not_in {ts : List (Int × Int)} {ms : List Int} {a b : Int} (h : OnR ts ms a b) (ha : a ∉ ms) : a ∉ FF.but b ms := fun z => ha (mem_but.mp z).1
theorem Fo.swap {ts : List (Int × Int)} {ms : List Int} {a b : Int} (h : Fo ts ms) (ha : a ∉ ms) (hb : OnR ts ms a b) : Fo ts (FF.but b ms ++ [a]) := (h.but b).add (hb.not_in ha) hb.2
/-- the ring of another tie stays, if what goes is not on it -/
theorem ring_stays {ts : List (Int × Int)} {ms ns : List Int} {a : Int} (h : Fo ts ms) (h' : Fo ts ns) (hj : jn ts ms (tk ts a).1 (tk ts a).2) (hs : ∀ x, OnR ts ms a x → x ∈ ns) : jn ts ns (tk ts a).1 (tk ts a).2 ∧ ∀ x, OnR ts ns a x ↔ OnR ts ms a x := by
  obtain ⟨rs, hR⟩ := ring_exists h.nd hj
  have h1 := hR.mem_iff h.rl h.nd
  have hR' : IsRing ts ns (tk ts a).1 (tk ts a).2 rs := ⟨hR.way, hR.nd, fun m hm => hs m ((h1 m).mp hm)⟩
  have h2 := hR'.mem_iff h'.rl h'.nd
  exact ⟨hR'.way.joined hR'.mem, fun x => (h2 x).symm.trans (h1 x)⟩
theorem OnR.jn {ts : List (Int × Int)} {ms : List Int} {a b : Int} (_ : OnR ts ms a b) (hj : jn ts ms (tk ts a).1 (tk ts a).2) : FF.jn ts ms (tk ts a).1 (tk ts a).2 := hj
/-- several exchanges one after another: each next pair of the list comes earlier in the row -/
theorem Fo.swaps {ts : List (Int × Int)} : ∀ (ps : List (Int × Int)) {ms : List Int}, Fo ts ms → (ps.map Prod.fst).Nodup → (∀ p ∈ ps, p.1 ∉ ms ∧ FF.jn ts ms (tk ts p.1).1 (tk ts p.1).2 ∧ OnR ts ms p.1 p.2) → ps.Pairwise (fun p q => ¬ OnR ts ms q.1 p.2) → ∃ ns, Fo ts ns ∧ ∀ x, x ∈ ns ↔ (x ∈ ms ∧ x ∉ ps.map Prod.snd) ∨ x ∈ ps.map Prod.fst
  | [], ms, h, _, _, _ => ⟨ms, h, fun x => by simp⟩
  | (a, b) :: ps, ms, h, hnd, hp, hw => by
    obtain ⟨ha, hj, hb⟩ := hp (a, b) List.mem_cons_self
    obtain ⟨w1, w2⟩ := List.pairwise_cons.mp hw
    obtain ⟨n1, n2⟩ := List.nodup_cons.mp (show (a :: ps.map Prod.fst).Nodup from hnd)
    have h' := h.swap ha hb
    have keep : ∀ p ∈ ps, FF.jn ts (FF.but b ms ++ [a]) (tk ts p.1).1 (tk ts p.1).2 ∧ ∀ x, OnR ts (FF.but b ms ++ [a]) p.1 x ↔ OnR ts ms p.1 x := fun p hpm => by
      obtain ⟨_, hj', _⟩ := hp p (List.mem_cons_of_mem _ hpm)
      refine ring_stays h h' hj' fun x hx => List.mem_append_left _ (mem_but.mpr ⟨hx.1, fun z => w1 p hpm (z ▸ hx)⟩)
    obtain ⟨ns, hF, hm⟩ := Fo.swaps ps h' n2 (fun p hpm => by
      obtain ⟨p1, p2, p3⟩ := hp p (List.mem_cons_of_mem _ hpm)
      obtain ⟨k1, k2⟩ := keep p hpm
      refine ⟨fun z => ?_, k1, (k2 _).mpr p3⟩
      rcases List.mem_append.mp z with z | z
      · exact p1 (mem_but.mp z).1
      · exact n1 (List.mem_map.mpr ⟨p, hpm, List.mem_singleton.mp z⟩)) (w2.imp_of_mem fun {p q} hpm hqm hpq => fun z => hpq (((keep q hqm).2 _).mp z))
    refine ⟨ns, hF, fun x => ?_⟩
    rw [hm x, List.mem_append, mem_but, List.mem_singleton, List.map_cons, List.map_cons, List.mem_cons, List.mem_cons]
    constructor
    · rintro (⟨⟨x1, x2⟩ | x1, x3⟩ | x1)
      · exact .inl ⟨x1, fun z => z.elim x2 x3⟩
      · exact .inr (.inl x1)
      · exact .inr (.inr x1)
    · rintro (⟨x1, x2⟩ | x1 | x1)
      · exact .inl ⟨.inl ⟨x1, fun z => x2 (.inl z)⟩, fun z => x2 (.inr z)⟩
      · refine .inl ⟨.inr x1, fun z => ?_⟩
        obtain ⟨p, hpm, e⟩ := List.mem_map.mp z
        have := (hp p (List.mem_cons_of_mem _ hpm)).2.2.1
        rw [e, x1] at this
        exact ha this
      · exact .inr x1
end FF
namespace FF
open PySem PySem.Spec PyProof.Rows L2
variable [LT]
/-- a laying after pushes -/
def pushL (ws : List V) (es : List (Int × Int)) : List V := es.foldl (fun w e => w.set e.1.toNat (.int e.2)) ws
theorem pushL_length (es : List (Int × Int)) : ∀ ws : List V, (pushL ws es).length = ws.length := by
  induction es with
  | nil => exact fun _ => rfl
  | cons e es ih => exact fun ws => (ih _).trans List.length_set
theorem nums_iff {f : Int} {ws : List V} {x : Int} : x ∈ numsFrom f 0 ws ↔ 0 ≤ x ∧ ws[x.toNat]? = some (.int f) := by
  constructor
  · intro h
    obtain ⟨k, e, hk⟩ := nums_at h
    have := nums_bd f 0 ws x h
    rw [show x.toNat = k by omega]
    exact ⟨by omega, hk⟩
  · rintro ⟨h0, h⟩
    have := mem_nums (i := 0) h
    rw [Nat.zero_add, Int.toNat_of_nonneg h0] at this
    exact this
theorem fo_nums {ts : List (Int × Int)} {ws : List V} {f : Int} (hl : ws.length = ts.length) : Fo ts (numsFrom f 0 ws) ↔ ringlessF (fun x => x) (layerOf ts ws f) = true := by
  have e : pick ts (numsFrom f 0 ws) = layerOf ts ws f := pick_nums f [] ts ws hl.symm
  exact ⟨fun h => by rw [← e]; exact h.rl, fun h => ⟨nums_nd f 0 ws, by rw [e]; exact h⟩⟩
theorem jn_join {ts : List (Int × Int)} {ws : List V} {e : Int × Int} (hl : ws.length = ts.length) : joinB ts ws e = true ↔ jn ts (numsFrom e.2 0 ws) (tk ts e.1).1 (tk ts e.1).2 := by
  unfold joinB jn
  rw [decide_eq_true_eq, show pick ts (numsFrom e.2 0 ws) = layerOf ts ws e.2 from pick_nums e.2 [] ts ws hl.symm]
/-! ### what a row without short cuts makes of a laying -/
theorem pushL_in : ∀ (es : List (Int × Int)) {ws : List V} {e : Int × Int}, (es.map Prod.fst).Nodup → (∀ e ∈ es, 0 ≤ e.1 ∧ e.1 < (ws.length : Int)) → e ∈ es → (pushL ws es)[e.1.toNat]? = some (.int e.2)
  | d :: es, ws, e, hn, hb, he => by
    obtain ⟨n1, n2⟩ := List.nodup_cons.mp (show (d.1 :: es.map Prod.fst).Nodup from hn)
    show (pushL (ws.set d.1.toNat (.int d.2)) es)[e.1.toNat]? = _
    have hb' : ∀ e ∈ es, 0 ≤ e.1 ∧ e.1 < ((ws.set d.1.toNat (.int d.2)).length : Int) := fun e' h' => by rw [List.length_set]; exact hb e' (List.mem_cons_of_mem _ h')
    rcases List.mem_cons.mp he with rfl | he
    · rw [pushL_out es (fun z => n1 z) hb' (hb e List.mem_cons_self).1]
      have := hb e List.mem_cons_self
      exact List.getElem?_set_self (by omega)
    · exact pushL_in es n2 hb' he
where
  pushL_out : ∀ (es : List (Int × Int)) {ws : List V} {x : Int}, x ∉ es.map Prod.fst → (∀ e ∈ es, 0 ≤ e.1 ∧ e.1 < (ws.length : Int)) → 0 ≤ x → (pushL ws es)[x.toNat]? = ws[x.toNat]?
    | [], _, _, _, _, _ => rfl
    | d :: es, ws, x, hx, hb, x0 => by
      have hx : x ∉ d.1 :: es.map Prod.fst := hx
      have h1 : x ≠ d.1 := fun z => hx (by rw [z]; exact List.mem_cons_self)
      have h2 : x ∉ es.map Prod.fst := fun z => hx (List.mem_cons_of_mem _ z)
      show (pushL (ws.set d.1.toNat (.int d.2)) es)[x.toNat]? = _
      rw [pushL_out es h2 (fun e' h' => by rw [List.length_set]; exact hb e' (List.mem_cons_of_mem _ h')) x0]
      have := (hb d List.mem_cons_self).1
      exact List.getElem?_set_ne (by omega)
def pairsF (f : Int) : List (Int × Int) → List (Int × Int)
  | e :: e' :: r => (if e.2 = f then [(e.1, e'.1)] else []) ++ pairsF f (e' :: r)
  | _ => []
/-- no short cut -/
def NoCut (ts : List (Int × Int)) (ws : List V) : List (Int × Int) → Prop
  | [] => True
  | e :: r => (∀ q ∈ r.tail, ¬ OnRing ts ws e q.1) ∧ NoCut ts ws r
theorem pairs_snd {f : Int} : ∀ {e : Int × Int} {r : List (Int × Int)} {p : Int × Int}, p ∈ pairsF f (e :: r) → ∃ q ∈ r, q.1 = p.2
  | e, e' :: r, p, h => by
    rcases List.mem_append.mp (show p ∈ (if e.2 = f then [(e.1, e'.1)] else []) ++ pairsF f (e' :: r) from h) with h | h
    · split at h
      · rw [List.mem_singleton.mp h]
        exact ⟨e', List.mem_cons_self, rfl⟩
      · cases h
    · obtain ⟨q, hq, e⟩ := pairs_snd h
      exact ⟨q, List.mem_cons_of_mem _ hq, e⟩
theorem pairs_fst {f : Int} : ∀ {es : List (Int × Int)}, ((pairsF f es).map Prod.fst).Sublist (es.map Prod.fst)
  | [] => .refl _
  | [e] => List.nil_sublist _
  | e :: e' :: r => by
    have ih := pairs_fst (f := f) (es := e' :: r)
    show (((if e.2 = f then [(e.1, e'.1)] else []) ++ pairsF f (e' :: r)).map Prod.fst).Sublist (e.1 :: (e' :: r).map Prod.fst)
    rw [List.map_append]
    split
    · exact ih.cons₂ _
    · exact ih.cons _
theorem pairs_ok {ts : List (Int × Int)} {ws : List V} {f : Int} (hl : ws.length = ts.length) : ∀ {es : List (Int × Int)}, pushB ts ws es = true → ∀ p ∈ pairsF f es, (p.1, f) ∈ es ∧ jn ts (numsFrom f 0 ws) (tk ts p.1).1 (tk ts p.1).2 ∧ OnR ts (numsFrom f 0 ws) p.1 p.2
  | e :: e' :: r, h, p, hp => by
    have h : ((joinB ts ws e && @decide (OnRing ts ws e e'.1) (Classical.propDecidable _)) && pushB ts ws (e' :: r)) = true := h
    rw [Bool.and_eq_true, Bool.and_eq_true] at h
    obtain ⟨⟨h1, h2⟩, h3⟩ := h
    rcases List.mem_append.mp (show p ∈ (if e.2 = f then [(e.1, e'.1)] else []) ++ pairsF f (e' :: r) from hp) with hp | hp
    · split at hp
      · rename_i ef
        rw [List.mem_singleton.mp hp]
        subst ef
        exact ⟨List.mem_cons_self, (jn_join hl).mp h1, @of_decide_eq_true _ (Classical.propDecidable _) h2⟩
      · cases hp
    · obtain ⟨a, b, c⟩ := pairs_ok hl h3 p hp
      exact ⟨List.mem_cons_of_mem _ a, b, c⟩
theorem pairs_apart {ts : List (Int × Int)} {ws : List V} {f : Int} : ∀ {es : List (Int × Int)}, NoCut ts ws es → (pairsF f es).Pairwise fun p q => ¬ OnR ts (numsFrom f 0 ws) p.1 q.2
  | [], _ => .nil
  | [e], _ => .nil
  | e :: e' :: r, h => by
    have ih := pairs_apart (f := f) (es := e' :: r) h.2
    show ((if e.2 = f then [(e.1, e'.1)] else []) ++ pairsF f (e' :: r)).Pairwise _
    rw [List.pairwise_append]
    refine ⟨by split <;> simp, ih, fun p hp q hq => ?_⟩
    split at hp
    · rename_i ef
      rw [List.mem_singleton.mp hp]
      obtain ⟨q', hq', e2⟩ := pairs_snd hq
      subst ef
      have := h.1 q' hq'
      rw [e2] at this
      exact this
    · cases hp
theorem pairs_has {f : Int} : ∀ {es : List (Int × Int)} {e : Int × Int}, e ∈ es → e.2 = f → (∃ b, (e.1, b) ∈ pairsF f es) ∨ es.getLast? = some e
  | [d], e, he, _ => .inr (by rw [List.mem_singleton.mp he]; rfl)
  | d :: d' :: r, e, he, ef => by
    rcases List.mem_cons.mp he with rfl | he
    · refine .inl ⟨d'.1, ?_⟩
      show (e.1, d'.1) ∈ (if e.2 = f then [(e.1, d'.1)] else []) ++ pairsF f (d' :: r)
      rw [if_pos ef]
      exact List.mem_cons_self
    · rcases pairs_has he ef with ⟨b, hb⟩ | h
      · exact .inl ⟨b, List.mem_append_right _ hb⟩
      · exact .inr (by rw [List.getLast?_cons_cons]; exact h)
/-- what is pushed away from a forest -/
theorem pairs_gone {ts : List (Int × Int)} {ws : List V} {f : Int} : ∀ {e : Int × Int} {r : List (Int × Int)}, pushB ts ws (e :: r) = true → ∀ q ∈ r, q.1 ∈ numsFrom f 0 ws → q.1 ∈ (pairsF f (e :: r)).map Prod.snd
  | e, e' :: r, h, q, hq, hm => by
    have h : ((joinB ts ws e && @decide (OnRing ts ws e e'.1) (Classical.propDecidable _)) && pushB ts ws (e' :: r)) = true := h
    rw [Bool.and_eq_true, Bool.and_eq_true] at h
    obtain ⟨⟨h1, h2⟩, h3⟩ := h
    show q.1 ∈ (((if e.2 = f then [(e.1, e'.1)] else []) ++ pairsF f (e' :: r)).map Prod.snd)
    rw [List.map_append, List.mem_append]
    rcases List.mem_cons.mp hq with rfl | hq
    · have h2 : OnRing ts ws e q.1 := @of_decide_eq_true _ (Classical.propDecidable _) h2
      have a := (nums_iff.mp h2.1).2
      have b := (nums_iff.mp hm).2
      rw [a] at b
      have ef : e.2 = f := V.int.inj (Option.some.inj b)
      rw [if_pos ef]
      exact .inl List.mem_cons_self
    · exact .inr (pairs_gone h3 q hq hm)
theorem push_last {ts : List (Int × Int)} {ws : List V} : ∀ {es : List (Int × Int)} {e : Int × Int}, pushB ts ws es = true → es.getLast? = some e → joinB ts ws e = false
  | [d], e, h, hl => by
    have h : (!joinB ts ws d) = true := h
    have : d = e := Option.some.inj hl
    subst this
    cases e : joinB ts ws d with
    | false => rfl
    | true => rw [e] at h; cases h
  | d :: d' :: r, e, h, hl => by
    have h : ((joinB ts ws d && @decide (OnRing ts ws d d'.1) (Classical.propDecidable _)) && pushB ts ws (d' :: r)) = true := h
    rw [Bool.and_eq_true] at h
    rw [List.getLast?_cons_cons] at hl
    exact push_last h.2 hl
theorem pairs_not_last {f : Int} : ∀ {es : List (Int × Int)} {p e : Int × Int}, (es.map Prod.fst).Nodup → p ∈ pairsF f es → es.getLast? = some e → p.1 ≠ e.1
  | d :: d' :: r, p, e, hn, hp, hl => by
    obtain ⟨n1, n2⟩ := List.nodup_cons.mp (show (d.1 :: (d' :: r).map Prod.fst).Nodup from hn)
    rw [List.getLast?_cons_cons] at hl
    rcases List.mem_append.mp (show p ∈ (if d.2 = f then [(d.1, d'.1)] else []) ++ pairsF f (d' :: r) from hp) with hp | hp
    · split at hp
      · rw [List.mem_singleton.mp hp]
        exact fun z => n1 (List.mem_map.mpr ⟨e, List.mem_of_getLast? hl, z.symm⟩)
      · cases hp
    · exact pairs_not_last n2 hp hl
/-- a row of pushes without short cuts leaves no ring -/
theorem row_lays {ts : List (Int × Int)} {ws : List V} {e0 : Int × Int} {r : List (Int × Int)} (hl : ws.length = ts.length) (hf : ∀ f, ringlessF (fun x => x) (layerOf ts ws f) = true) (hn : ((e0 :: r).map Prod.fst).Nodup) (hb : ∀ e ∈ e0 :: r, 0 ≤ e.1 ∧ e.1 < (ts.length : Int)) (hlay : ∀ e ∈ e0 :: r, layB ws e = false) (hp : pushB ts ws (e0 :: r) = true) (h0 : ws[e0.1.toNat]? = some .non) (hc : NoCut ts ws (e0 :: r)) (f : Int) : ringlessF (fun x => x) (layerOf ts (pushL ws (e0 :: r)) f) = true := by
  have hb' : ∀ e ∈ e0 :: r, 0 ≤ e.1 ∧ e.1 < (ws.length : Int) := fun e he => by rw [hl]; exact hb e he
  rw [← fo_nums ((pushL_length _ _).trans hl)]
  have hF := (fo_nums hl).mpr (hf f)
  have hout : ∀ e ∈ e0 :: r, e.2 = f → e.1 ∉ numsFrom f 0 ws := fun e he ef z => by
    have := hlay e he
    unfold layB at this
    rw [ef, (nums_iff.mp z).2, decide_eq_true rfl] at this
    cases this
  have hps := pairs_ok (f := f) hl hp
  have hap := pairs_apart (f := f) hc
  have hnd := hn.sublist (pairs_fst (f := f) (es := e0 :: r))
  -- a free tie at the end
  obtain ⟨ms, hM, hms, hkeep⟩ : ∃ ms, Fo ts ms ∧ (∀ x, x ∈ ms ↔ x ∈ numsFrom f 0 ws ∨ ∃ e, (e0 :: r).getLast? = some e ∧ e.2 = f ∧ e.1 = x) ∧ ∀ p ∈ pairsF f (e0 :: r), p.1 ∉ ms ∧ jn ts ms (tk ts p.1).1 (tk ts p.1).2 ∧ ∀ x, OnR ts ms p.1 x ↔ OnR ts (numsFrom f 0 ws) p.1 x := by
    by_cases c : ∃ e, (e0 :: r).getLast? = some e ∧ e.2 = f
    · obtain ⟨e, he, ef⟩ := c
      have hem := List.mem_of_getLast? he
      have hj : ¬ jn ts (numsFrom f 0 ws) (tk ts e.1).1 (tk ts e.1).2 := fun z => by
        have := push_last hp he
        subst ef
        rw [(jn_join hl).mpr z] at this
        cases this
      have hM := hF.add (hout e hem ef) hj
      refine ⟨_, hM, fun x => ?_, fun p hpm => ?_⟩
      · rw [List.mem_append, List.mem_singleton]
        constructor
        · rintro (h | h)
          · exact .inl h
          · exact .inr ⟨e, he, ef, h.symm⟩
        · rintro (h | ⟨e', h1, _, h3⟩)
          · exact .inl h
          · rw [he] at h1
            cases h1
            exact .inr h3.symm
      · obtain ⟨p1, p2, p3⟩ := hps p hpm
        refine ⟨fun z => ?_, ring_stays hF hM p2 fun x hx => List.mem_append_left _ hx.1⟩
        rcases List.mem_append.mp z with z | z
        · exact hout (p.1, f) p1 rfl z
        · exact pairs_not_last hn hpm he (List.mem_singleton.mp z)
    · refine ⟨_, hF, fun x => ⟨.inl, fun h => h.elim id fun ⟨e, h1, h2, _⟩ => absurd ⟨e, h1, h2⟩ c⟩, fun p hpm => ?_⟩
      obtain ⟨p1, p2, p3⟩ := hps p hpm
      exact ⟨hout (p.1, f) p1 rfl, p2, fun _ => Iff.rfl⟩
  obtain ⟨ns, hN, hns⟩ := Fo.swaps (pairsF f (e0 :: r)).reverse hM (by rw [List.map_reverse]; exact (List.reverse_perm _).nodup_iff.mpr hnd) (fun p hpm => by
    have hpm := List.mem_reverse.mp hpm
    obtain ⟨a, b, c⟩ := hkeep p hpm
    exact ⟨a, b, (c _).mpr (hps p hpm).2.2⟩) (by
    rw [List.pairwise_reverse]
    exact hap.imp_of_mem fun {p q} hpm hqm hpq => fun z => hpq (((hkeep p hpm).2.2 _).mp z))
  refine hN.same (nums_nd _ _ _) fun x => ?_
  rw [hns x, hms x, List.map_reverse, List.map_reverse, List.mem_reverse, List.mem_reverse]
  have hgone : ∀ y, y ∈ (pairsF f (e0 :: r)).map Prod.snd → y ∈ numsFrom f 0 ws ∧ y ∈ (e0 :: r).map Prod.fst := fun y hy => by
    obtain ⟨p, hpm, rfl⟩ := List.mem_map.mp hy
    obtain ⟨q, hq, e⟩ := pairs_snd hpm
    exact ⟨(hps p hpm).2.2.1, List.mem_map.mpr ⟨q, List.mem_cons_of_mem _ hq, e⟩⟩
  constructor
  · intro h
    obtain ⟨x0, hx⟩ := nums_iff.mp h
    by_cases c : x ∈ (e0 :: r).map Prod.fst
    · obtain ⟨e, he, rfl⟩ := List.mem_map.mp c
      rw [pushL_in _ hn hb' he] at hx
      have ef : e.2 = f := V.int.inj (Option.some.inj hx)
      rcases pairs_has he ef with ⟨b, hbm⟩ | hla
      · exact .inr (List.mem_map.mpr ⟨_, hbm, rfl⟩)
      · exact .inl ⟨.inr ⟨e, hla, ef, rfl⟩, fun z => hout e he ef (hgone _ z).1⟩
    · rw [pushL_in.pushL_out _ c hb' x0] at hx
      exact .inl ⟨.inl (nums_iff.mpr ⟨x0, hx⟩), fun z => c (hgone _ z).2⟩
  · rintro (⟨h | ⟨e, h1, h2, rfl⟩, hx⟩ | h)
    · obtain ⟨x0, hw⟩ := nums_iff.mp h
      refine nums_iff.mpr ⟨x0, ?_⟩
      rw [pushL_in.pushL_out _ (fun z => ?_) hb' x0]
      · exact hw
      · obtain ⟨q, hq, rfl⟩ := List.mem_map.mp z
        rcases List.mem_cons.mp hq with rfl | hq
        · rw [h0] at hw
          cases hw
        · exact hx (pairs_gone hp q hq h)
    · have hem := List.mem_of_getLast? h1
      exact nums_iff.mpr ⟨(hb e hem).1, by rw [pushL_in _ hn hb' hem, h2]⟩
    · obtain ⟨p, hpm, rfl⟩ := List.mem_map.mp h
      have := (hps p hpm).1
      exact nums_iff.mpr ⟨(hb _ this).1, pushL_in _ hn hb' this⟩
end FF
namespace FF
open PySem PySem.Spec PyProof.Rows L2
variable [LT]
/-! ### what is reached and closed is full -/
theorem nub_one {ls : List Int} {g : Int → Int} (hne : ls ≠ []) (h : ∀ x ∈ ls, ∀ y ∈ ls, g x = g y) : (nub (ls.map g)).length = 1 := by
  cases ls with
  | nil => exact absurd rfl hne
  | cons x r =>
    have : (nub ((x :: r).map g)).length = [g x].length := nd_eq (nub_nd _) (by simp) fun k => by
      rw [mem_nub, List.mem_singleton]
      constructor
      · intro hk
        obtain ⟨y, hy, rfl⟩ := List.mem_map.mp hk
        exact h y hy x List.mem_cons_self
      · rintro rfl
        exact List.mem_map.mpr ⟨x, List.mem_cons_self, rfl⟩
    exact this
theorem tree_count {ts : List (Int × Int)} {ms : List Int} {ls : List Int} (h : Fo ts ms) (hin : ∀ m ∈ ms, (tk ts m).1 ∈ ls ∧ (tk ts m).2 ∈ ls) (hn : ls.Nodup) (hne : ls ≠ []) (hj : ∀ x ∈ ls, ∀ y ∈ ls, jn ts ms x y) : ms.length + 1 = ls.length := by
  have := lot_count (ls := ls) h.rl fun t ht => by
    obtain ⟨m, hm, rfl⟩ := List.mem_map.mp ht
    exact hin m hm
  rw [nub_one hne hj, List.map_id', nub_of_nd hn, pick_length] at this
  exact this
/-- ties that are reached: closed under pushes, and hanging together -/
structure Closed (ts : List (Int × Int)) (ws : List V) (k : Int) (R : List Int) : Prop where
  nd : R.Nodup
  rng : ∀ t ∈ R, 0 ≤ t ∧ t < (ts.length : Int)
  ring : ∀ t ∈ R, ∀ f, 0 ≤ f → f < k → ws[t.toNat]? ≠ some (.int f) → jn ts (numsFrom f 0 ws) (tk ts t).1 (tk ts t).2 ∧ ∀ x, OnR ts (numsFrom f 0 ws) t x → x ∈ R
  one : ∀ t ∈ R, ∀ s ∈ R, jn ts R (tk ts t).1 (tk ts s).1
/-- the ends of some ties -/
structure EndsOf (ts : List (Int × Int)) (R : List Int) (ls : List Int) : Prop where
  nd : ls.Nodup
  mem : ∀ x, x ∈ ls ↔ ∃ t ∈ R, x = (tk ts t).1 ∨ x = (tk ts t).2
theorem Closed.joins {ts : List (Int × Int)} {ws : List V} {k : Int} {R ls : List Int} (h : Closed ts ws k R) (hE : EndsOf ts R ls) {x y : Int} (hx : x ∈ ls) (hy : y ∈ ls) : jn ts R x y := by
  have go : ∀ z ∈ ls, ∃ t ∈ R, jn ts R z (tk ts t).1 := fun z hz => by
    obtain ⟨t, ht, e⟩ := (hE.mem z).mp hz
    refine ⟨t, ht, ?_⟩
    rcases e with rfl | rfl
    · rfl
    · exact (Leads.foldR (ts := ts) ht (.inl rfl)).symm
  obtain ⟨t, ht, e1⟩ := go x hx
  obtain ⟨s, hs, e2⟩ := go y hy
  exact e1.trans ((h.one t ht s hs).trans e2.symm)
/-- in each forest the reached ties are a tree on their ends -/
theorem Closed.tree {ts : List (Int × Int)} {ws : List V} {k : Int} {R ls : List Int} (hl : ws.length = ts.length) (h : Closed ts ws k R) (hE : EndsOf ts R ls) (hne : R ≠ []) (hf : ∀ f, ringlessF (fun x => x) (layerOf ts ws f) = true) {f : Int} (f0 : 0 ≤ f) (f1 : f < k) : inside ls (layerOf ts ws f) + 1 = ls.length := by
  have hF := (fo_nums hl).mpr (hf f)
  have hFo : Fo ts ((numsFrom f 0 ws).filter fun m => decide (m ∈ R)) := ⟨hF.nd.filter _, ringlessF_sub (List.filter_sublist.map _) hF.rl⟩
  have hlne : ls ≠ [] := by
    cases R with
    | nil => exact absurd rfl hne
    | cons t r => exact fun z => by have := (hE.mem (tk ts t).1).mpr ⟨t, List.mem_cons_self, .inl rfl⟩; rw [z] at this; cases this
  have hj : ∀ x ∈ ls, ∀ y ∈ ls, jn ts ((numsFrom f 0 ws).filter fun m => decide (m ∈ R)) x y := fun x hx y hy => by
    refine foldR_fine (g := foldR (fun x => x) (pick ts ((numsFrom f 0 ws).filter fun m => decide (m ∈ R)))) (L := pick ts R) (r := fun x => x) (fun a b e => by rw [show a = b from e]) (fun t ht => ?_) x y (h.joins hE hx hy)
    obtain ⟨m, hm, rfl⟩ := List.mem_map.mp ht
    by_cases c : ws[m.toNat]? = some (.int f)
    · have : m ∈ (numsFrom f 0 ws).filter fun m => decide (m ∈ R) := List.mem_filter.mpr ⟨nums_iff.mpr ⟨(h.rng m hm).1, c⟩, decide_eq_true hm⟩
      exact Leads.foldR (ts := ts) this (.inl rfl)
    · obtain ⟨j1, j2⟩ := h.ring m hm f f0 f1 c
      obtain ⟨ns, hR⟩ := ring_exists hF.nd j1
      have h1 := hR.mem_iff hF.rl hF.nd
      exact hR.way.joined fun x hx => List.mem_filter.mpr ⟨hR.mem x hx, decide_eq_true (j2 x ((h1 x).mp hx))⟩
  have h1 := tree_count hFo (fun m hm => by
    have := of_decide_eq_true (List.mem_filter.mp hm).2
    exact ⟨(hE.mem _).mpr ⟨m, this, .inl rfl⟩, (hE.mem _).mpr ⟨m, this, .inr rfl⟩⟩) hE.nd hlne hj
  have h2 := inside_forest (hf f) hE.nd hlne
  have h3 : ((numsFrom f 0 ws).filter fun m => decide (m ∈ R)).length ≤ inside ls (layerOf ts ws f) := by
    have e : layerOf ts ws f = pick ts (numsFrom f 0 ws) := (pick_nums f [] ts ws hl.symm).symm
    unfold inside
    rw [e]
    unfold pick
    rw [List.filter_map, List.length_map]
    refine (List.Sublist.length_le ?_)
    rw [show ((numsFrom f 0 ws).filter fun m => decide (m ∈ R)) = ((numsFrom f 0 ws).filter ((fun t => decide (t.1 ∈ ls) && decide (t.2 ∈ ls)) ∘ fun m => ts.getD m.toNat (0, 0))).filter fun m => decide (m ∈ R) from ?_]
    · exact List.filter_sublist
    · rw [List.filter_filter]
      apply List.filter_congr
      intro m _
      by_cases c : m ∈ R
      · rw [decide_eq_true c]
        show true = (true && (decide ((tk ts m).1 ∈ ls) && decide ((tk ts m).2 ∈ ls)))
        rw [decide_eq_true ((hE.mem _).mpr ⟨m, c, .inl rfl⟩), decide_eq_true ((hE.mem _).mpr ⟨m, c, .inr rfl⟩)]
        rfl
      · rw [decide_eq_false c]
        rfl
  omega
end FF
namespace FF
open PySem PySem.Spec PyProof.Rows L2
variable [LT]
theorem laid_inside (ls : List Int) : ∀ {ts : List (Int × Int)} {ws : List V}, inside ls (laidT ts ws) ≤ inside ls ts
  | [], ws => by
    unfold laidT
    rw [List.zip_nil_left]
    exact Nat.le_refl _
  | t :: ts, [] => by
    unfold laidT
    rw [List.zip_nil_right]
    exact Nat.zero_le _
  | t :: ts, x :: ws => by
    have ih := laid_inside ls (ts := ts) (ws := ws)
    rw [laidT_cons, inside_app, show t :: ts = [t] ++ ts from rfl, inside_app]
    split
    · have : inside ls [] = 0 := rfl
      omega
    · omega
theorem left_inside {ls : List Int} : ∀ {ts : List (Int × Int)} {ws : List V} {i : Nat} {t : Int × Int}, ts[i]? = some t → ws[i]? = some .non → t.1 ∈ ls → t.2 ∈ ls → inside ls (laidT ts ws) + 1 ≤ inside ls ts
  | u :: ts, x :: ws, 0, t, h1, h2, a, b => by
    cases h1
    cases h2
    rw [laidT_cons, if_pos rfl, List.nil_append, inside_cons, decide_eq_true a, decide_eq_true b]
    have := laid_inside ls (ts := ts) (ws := ws)
    show _ ≤ 1 + _
    omega
  | u :: ts, x :: ws, i + 1, t, h1, h2, a, b => by
    have ih := left_inside (ts := ts) (ws := ws) (i := i) h1 h2 a b
    rw [laidT_cons, inside_app, show u :: ts = [u] ++ ts from rfl, inside_app]
    split
    · have : inside ls [] = 0 := rfl
      omega
    · omega
  | [], _, _, _, h1, _, _, _ => by simp at h1
  | _ :: _, [], _, _, _, h2, _, _ => by simp at h2
/-- the ends of what is reached and closed are full -/
theorem Closed.full {ts : List (Int × Int)} {ws : List V} {k : Int} {R ls : List Int} (hL : LayK ts k ws) (hk : 0 ≤ k) (h : Closed ts ws k R) (hE : EndsOf ts R ls) {e : Int} (he : e ∈ R) (hn : ws[e.toNat]? = some .non) : (inside ls ts : Int) > k * ((ls.length : Int) - 1) := by
  have hne : R ≠ [] := fun z => by rw [z] at he; cases he
  have ht : (inside ls (laidT ts ws) : Int) = k * ((ls.length : Int) - 1) := by
    refine (tight_iff hL hk hE.nd ?_).mpr fun f f0 f1 => ?_
    · intro z
      have := (hE.mem (tk ts e).1).mpr ⟨e, he, .inl rfl⟩
      rw [z] at this
      cases this
    · have := h.tree hL.len hE hne hL.tree f0 f1
      omega
  have := left_inside (ls := ls) (getD_at (h.rng e he).1 (h.rng e he).2) hn ((hE.mem _).mpr ⟨e, he, .inl rfl⟩) ((hE.mem _).mpr ⟨e, he, .inr rfl⟩)
  omega
/-- a full lot lets no whole laying -/
theorem whole_inside {ts : List (Int × Int)} {ws : List V} (hl : ws.length = ts.length) (hw : ∀ x ∈ ws, x ≠ V.non) : laidT ts ws = ts := by
  induction ts generalizing ws with
  | nil =>
    unfold laidT
    rw [List.zip_nil_left]
    rfl
  | cons t ts ih =>
    cases ws with
    | nil => cases hl
    | cons x ws =>
      rw [laidT_cons, if_neg (hw x List.mem_cons_self), ih (Nat.succ.inj hl) fun y hy => hw y (List.mem_cons_of_mem _ hy)]
      rfl
theorem not_full {ts : List (Int × Int)} {k : Int} {ws : List V} (hL : LayK ts k ws) (hk : 0 ≤ k) (hw : ∀ x ∈ ws, x ≠ V.non) {ls : List Int} (hn : ls.Nodup) (hne : ls ≠ []) : (inside ls ts : Int) ≤ k * ((ls.length : Int) - 1) := by
  have e := inside_laid ls hL.len hL.each
  rw [whole_inside hL.len hw] at e
  rw [e]
  have hm := sum_most (s := (ls.length : Int) - 1) (g := fun f => (inside ls (layerOf ts ws f) : Int)) (l := upTo k) fun f _ => by
    have := inside_forest (hL.tree f) hn hne
    show (inside ls (layerOf ts ws f) : Int) ≤ _
    omega
  have hl : ((upTo k).length : Int) = k := by rw [upTo_length]; omega
  rw [hl] at hm
  exact hm.1
/-- a laying after a row of pushes without short cuts -/
theorem LayK.push {ts : List (Int × Int)} {k : Int} {ws : List V} {e0 : Int × Int} {r : List (Int × Int)} (hL : LayK ts k ws) (hn : ((e0 :: r).map Prod.fst).Nodup) (hb : ∀ e ∈ e0 :: r, (0 ≤ e.1 ∧ e.1 < (ts.length : Int)) ∧ 0 ≤ e.2 ∧ e.2 < k) (hlay : ∀ e ∈ e0 :: r, layB ws e = false) (hp : pushB ts ws (e0 :: r) = true) (h0 : ws[e0.1.toNat]? = some .non) (hc : NoCut ts ws (e0 :: r)) : LayK ts k (pushL ws (e0 :: r)) := by
  refine ⟨(pushL_length _ _).trans hL.len, ?_, row_lays hL.len hL.tree hn (fun e he => (hb e he).1) hlay hp h0 hc⟩
  have go : ∀ (es : List (Int × Int)) {ws : List V}, (∀ e ∈ es, 0 ≤ e.2 ∧ e.2 < k) → (∀ x ∈ ws, x = V.non ∨ ∃ f, x = V.int f ∧ 0 ≤ f ∧ f < k) → ∀ x ∈ pushL ws es, x = V.non ∨ ∃ f, x = V.int f ∧ 0 ≤ f ∧ f < k := fun es => by
    induction es with
    | nil => exact fun _ h => h
    | cons e es ih =>
      intro ws he h
      refine ih (ws := ws.set e.1.toNat (.int e.2)) (fun e' h' => he e' (List.mem_cons_of_mem _ h')) fun x hx => ?_
      rcases List.mem_or_eq_of_mem_set hx with hx | rfl
      · exact h x hx
      · exact .inr ⟨_, rfl, he e List.mem_cons_self⟩
  exact go _ (fun e he => (hb e he).2) hL.each
end FF
namespace FF
open PySem PySem.Spec PyProof.Rows L2
variable [LT]
/-! ### where no lot is full a whole laying is there -/
structure PRow (ts : List (Int × Int)) (ws : List V) (k : Int) (es : List (Int × Int)) : Prop where
  ne : es ≠ []
  bd : ∀ e ∈ es, (0 ≤ e.1 ∧ e.1 < (ts.length : Int)) ∧ 0 ≤ e.2 ∧ e.2 < k
  lay : ∀ e ∈ es, layB ws e = false
  push : pushB ts ws es = true
section
variable {ts : List (Int × Int)} {ws : List V} {k : Int}
theorem pushB_parts {e e' : Int × Int} {r : List (Int × Int)} : pushB ts ws (e :: e' :: r) = true ↔ joinB ts ws e = true ∧ OnRing ts ws e e'.1 ∧ pushB ts ws (e' :: r) = true := by
  show ((joinB ts ws e && @decide (OnRing ts ws e e'.1) (Classical.propDecidable _)) && pushB ts ws (e' :: r)) = true ↔ _
  rw [Bool.and_eq_true, Bool.and_eq_true, @decide_eq_true_eq _ (Classical.propDecidable _), and_assoc]
theorem PRow.tail {e e' : Int × Int} {r : List (Int × Int)} (h : PRow ts ws k (e :: e' :: r)) : PRow ts ws k (e' :: r) :=
  ⟨List.cons_ne_nil _ _, fun q hq => h.bd q (List.mem_cons_of_mem _ hq), fun q hq => h.lay q (List.mem_cons_of_mem _ hq), (pushB_parts.mp h.push).2.2⟩
theorem PRow.cons {e e' : Int × Int} {r : List (Int × Int)} (b : (0 ≤ e.1 ∧ e.1 < (ts.length : Int)) ∧ 0 ≤ e.2 ∧ e.2 < k) (l : layB ws e = false) (j : joinB ts ws e = true) (o : OnRing ts ws e e'.1) (h : PRow ts ws k (e' :: r)) : PRow ts ws k (e :: e' :: r) :=
  ⟨List.cons_ne_nil _ _, fun q hq => (List.mem_cons.mp hq).elim (fun z => z ▸ b) (h.bd q), fun q hq => (List.mem_cons.mp hq).elim (fun z => z ▸ l) (h.lay q), pushB_parts.mpr ⟨j, o, h.push⟩⟩
theorem PRow.drop : ∀ {es : List (Int × Int)} {l1 l2 : List (Int × Int)} {q : Int × Int}, PRow ts ws k es → es = l1 ++ q :: l2 → PRow ts ws k (q :: l2)
  | es, [], l2, q, h, e => by subst e; exact h
  | es, [d], l2, q, h, e => by subst e; exact PRow.tail h
  | es, d :: d' :: l1, l2, q, h, e => by subst e; exact PRow.drop (es := d' :: l1 ++ q :: l2) (PRow.tail h) rfl
/-- no row from its first tie is shorter -/
def Least (ts : List (Int × Int)) (ws : List V) (k : Int) : List (Int × Int) → Prop
  | [] => True
  | e :: r => ∀ e' r', PRow ts ws k (e' :: r') → e'.1 = e.1 → r.length ≤ r'.length
theorem Least.tail {e e' : Int × Int} {r : List (Int × Int)} (h : PRow ts ws k (e :: e' :: r)) (m : Least ts ws k (e :: e' :: r)) : Least ts ws k (e' :: r) := fun d r' hd ed => by
  have p := pushB_parts.mp h.push
  have := m e (d :: r') (PRow.cons (h.bd e List.mem_cons_self) (h.lay e List.mem_cons_self) p.1 (by rw [ed]; exact p.2.1) hd) rfl
  rw [List.length_cons, List.length_cons] at this
  omega
theorem Least.nocut : ∀ {es : List (Int × Int)}, PRow ts ws k es → Least ts ws k es → NoCut ts ws es ∧ (es.map Prod.fst).Nodup
  | [], h, _ => absurd rfl h.ne
  | [e], _, _ => ⟨⟨(fun _ z => nomatch z), trivial⟩, by simp⟩
  | e :: e' :: r, h, m => by
    obtain ⟨i1, i2⟩ := Least.nocut (PRow.tail h) (m.tail h)
    have p := pushB_parts.mp h.push
    refine ⟨⟨fun q hq z => ?_, i1⟩, ?_⟩
    · obtain ⟨l1, l2, el⟩ := List.append_of_mem (show q ∈ r from hq)
      have hd := PRow.drop (l1 := e :: e' :: l1) (l2 := l2) (q := q) h (by rw [el]; rfl)
      have := m e (q :: l2) (PRow.cons (h.bd e List.mem_cons_self) (h.lay e List.mem_cons_self) p.1 z hd) rfl
      rw [el, List.length_cons, List.length_append, List.length_cons] at this
      omega
    · show (e.1 :: (e' :: r).map Prod.fst).Nodup
      rw [List.nodup_cons]
      refine ⟨fun z => ?_, i2⟩
      obtain ⟨q, hq, eq⟩ := List.mem_map.mp z
      obtain ⟨l1, l2, el⟩ := List.append_of_mem hq
      have hd := PRow.drop (l1 := e :: l1) (l2 := l2) (q := q) h (by rw [el]; rfl)
      have := m q l2 hd eq
      rw [el, List.length_append, List.length_cons] at this
      omega
/-- what pushes come to from e -/
inductive Rch (ts : List (Int × Int)) (ws : List V) (k : Int) (e : Int) : Int → Prop where
  | base : Rch ts ws k e e
  | step {s t f : Int} (h : Rch ts ws k e s) (f0 : 0 ≤ f) (f1 : f < k) (hn : ws[s.toNat]? ≠ some (.int f)) (hj : jn ts (numsFrom f 0 ws) (tk ts s).1 (tk ts s).2) (ho : OnR ts (numsFrom f 0 ws) s t) : Rch ts ws k e t
theorem Rch.rng {e t : Int} (hl : ws.length = ts.length) (h : Rch ts ws k e t) (he : 0 ≤ e ∧ e < (ts.length : Int)) : 0 ≤ t ∧ t < (ts.length : Int) := by
  induction h with
  | base => exact he
  | step _ _ _ _ _ ho _ =>
    obtain ⟨h0, h1⟩ := nums_iff.mp ho.1
    have := (List.getElem?_eq_some_iff.mp h1).1
    exact ⟨h0, by omega⟩
theorem layB_ne {s f : Int} (h : ws[s.toNat]? ≠ some (.int f)) : layB ws (s, f) = false := decide_eq_false h
theorem Rch.back {e t : Int} (hl : ws.length = ts.length) (h : Rch ts ws k e t) (he : 0 ≤ e ∧ e < (ts.length : Int)) : (∃ d r, PRow ts ws k (d :: r) ∧ d.1 = t) → ∃ d r, PRow ts ws k (d :: r) ∧ d.1 = e := by
  induction h with
  | base => exact id
  | @step s t f hs f0 f1 hn hj ho ih =>
    rintro ⟨d, r, hp, rfl⟩
    exact ih ⟨(s, f), d :: r, PRow.cons ⟨hs.rng hl he, f0, f1⟩ (layB_ne hn) ((jn_join (e := (s, f)) hl).mpr hj) ho hp, rfl⟩
end
end FF
namespace FF
open PySem PySem.Spec PyProof.Rows L2
variable [LT]
/-! ### all ways to lay -/
end FF
namespace FF
open PySem PySem.Spec PyProof.Rows L2
variable [LT]
/-! ### things as entries and rows -/
end FF
namespace FF
open PySem PySem.Spec PyProof.Rows L2
variable [LT]
/-! ### levels, and all pushers with their rings -/
open Classical in
noncomputable def lowB (ts : List (Int × Int)) (ws : List V) (e : Int × Int) (m : Int) (ls : List Int) : Bool := if joinB ts ws e = true then decide (∀ x, OnRing ts ws e x → hat ls x ≤ hat ls e.1 + 1) else decide (hat ls e.1 ≥ m - 1)
/-- what is pushed out of forest f is low enough -/
def LowF (ts : List (Int × Int)) (ws : List V) (tie : Nat) (m : Int) (ls : List Int) (f : Int) : Prop := ∀ i : Nat, i < ts.length → (i = tie ∨ ws[i]? ≠ some .non) → ws[i]? ≠ some (.int f) → lowB ts ws ((i : Int), f) m ls = true
def LevP (ts : List (Int × Int)) (k : Int) (ws : List V) (tie : Nat) (m : Int) (ls : List Int) : Prop := hat ls (tie : Int) = 0 ∧ ∀ f, 0 ≤ f → f < k → LowF ts ws tie m ls f
end FF
namespace FF
open PySem PySem.Spec PyProof.Rows L2
variable [LT]
/-! ### slices of tuples that are known to the object -/
section
variable {X : Cx} {K : PySem.W.Frag}
end
/-! ### layers of ways: how many earlier ties go the same way -/
end FF
namespace FF
open PySem PySem.Spec PyProof.Rows L2
variable [LT]
/-! ### each piece of a layer of ways has no more ties than points -/
end FF
namespace FF
open PySem PySem.Spec PyProof.Rows L2
variable [LT]
/-! ### {e for x in xs for y in ys}: a set of ints of two walks, no test -/
section
open PySem.Spec
abbrev two (elt t0 i0 t1 i1 : Expr) (scope : Scope) (pos : Pos) : Expr := .SetComp elt [⟨t0, i0, [], 0⟩, ⟨t1, i1, [], 0⟩] scope pos
theorem two_turn0 (elt t0 i0 t1 i1 : Expr) (scope : Scope) (pos : Pos) (it acc : Value) (env : Env) : compTurn (two elt t0 i0 t1 i1 scope pos) 0 it acc env = (standAt i0.pos >>= fun _ => pyNext it >>= fun r =>
    match r with
    | none => pure (.done .next)
    | some v => letOwnedTupleGo t0 it v >>= fun _ => assign t0 env v >>= fun _ => eval i1 env >>= fun x => standAt i1.pos >>= fun _ => foldedSetIterable i1 env x >>= fun x => holding [x] (pyIter x) >>= fun j =>
        runOwn (.compStart (two elt t0 i0 t1 i1 scope pos) 1 j acc env) env >>= fun _ => again (.compLoop (two elt t0 i0 t1 i1 scope pos) 0 it acc env)) := by rfl
theorem two_turn1 (elt t0 i0 t1 i1 : Expr) (scope : Scope) (pos : Pos) (it acc : Value) (env : Env) : compTurn (two elt t0 i0 t1 i1 scope pos) 1 it acc env = (standAt i1.pos >>= fun _ => pyNext it >>= fun r =>
    match r with
    | none => pure (.done .next)
    | some v => letOwnedTupleGo t1 it v >>= fun _ => assign t1 env v >>= fun _ => (eval elt env >>= fun y => standAt elt.pos >>= fun _ => call (.builtin "set.add") [acc, y] >>= fun _ => pure PUnit.unit) >>= fun _ =>
        again (.compLoop (two elt t0 i0 t1 i1 scope pos) 1 it acc env)) := by rfl
/-- one clause's loop: a walk, a store, and what follows in the same turn -/
theorem clause {Y : Cx} (cm : Y.calm = true) {c : Code} (qc : c.quiet = true) (hu : Y.A.under c = Y.A) {tg : Expr} {J : It} {fp : List Addr} {it : Addr} {tn : Nat → Heap → Prop} (wk : Turn Y.prog Y.w Y.K tg J fp it tn) {g : TG} (pg : PG Y tg g) {at_ : Pos} {body : Sem Fin} {R : Result → Shared → Prop} {pins : List (Addr × Obj)} {σ0 : L2.St}
    (stat : ∀ H', (∀ b ∈ fp, H' b = none) → ∀ b ∈ fp, FpOk Y pins H' b)
    (den : (model Y.prog Y.w).den c = (standAt at_ >>= fun _ => pyNext (.ref it) >>= fun r => match r with
      | none => pure (.done .next)
      | some v => letOwnedTupleGo tg (.ref it) v >>= fun _ => assign tg Y.env v >>= fun _ => body).onRaise (fun x => do noteFrame x Y.env; theTreesLotGoes x))
    (W : Nat → Nat → Hp → Prop)
    (turn : ∀ i m H, W i m H → (J.stop i H ∧ ∀ s, Inv Y pins σ0 H s → R (.ok .next) s) ∨ (J.go i H ∧ ∃ P : L2.St → Hp → Prop, (∀ x H', J.yld i H x H' → g x σ0 H' P) ∧ ∀ σ2 H2, P σ2 H2 → ∀ pins' s, Inv Y pins' σ2 H2 s →
      wpAny (model Y.prog Y.w) Y.A body (fun fin s' => fin = .again c ∧ ∃ H3 σ3 m', Inv Y pins' σ3 H3 s' ∧ σ0.length = σ3.length ∧ (∀ (j : Nat) v, σ0[j]? = some (some v) → σ3[j]? = some (some v)) ∧ m' < m ∧ W (i + 1) m' H3) (fun _ _ => False) s))
    (hx : ∀ v s, ¬ Y.xe v s) {m0 : Nat} {H0 : Hp} {s0 : Shared} (I0 : Inv Y pins σ0 H0 s0) (t0 : tn 0 s0.heap) (n0 : ∀ b ∈ fp, H0 b = none) (w0 : W 0 m0 H0) : codeAny (model Y.prog Y.w) Y.A c R s0 := by
  refine codeAny_loop qc (fun m s => ∃ i H, Inv Y pins σ0 H s ∧ tn i s.heap ∧ (∀ b ∈ fp, H b = none) ∧ W i m H) (fun m s hI => ?_) m0 ⟨0, H0, I0, t0, n0, w0⟩
  obtain ⟨i, H, I, tt, nn, ww⟩ := hI
  rw [hu, den]
  refine wpAny_noted (wpAny_mono (Q := fun fin s' => match fin with | .done f => R (.ok f) s' | .again c' => c' = c ∧ ∃ m', m' < m ∧ ∃ i H, Inv Y pins σ0 H s' ∧ tn i s'.heap ∧ (∀ b ∈ fp, H b = none) ∧ W i m' H) (E := fun _ _ => False) ?_ (fun _ _ z => z) fun _ _ z => z.elim)
  refine wpAny_bind (wpAny_standAt (wpAny_bind ?_))
  rcases turn i m H ww with ⟨st, fin⟩ | ⟨go, P, step, rest⟩
  · refine thn (wk.done Y rfl rfl rfl cm i pins s σ0 H (fun _ _ => False) I (stat H nn) tt st) fun r s1 hr => ?_
    rw [hr.1]
    exact wpAny_pure (fin s1 hr.2)
  · refine thn (wk.item Y rfl rfl rfl cm i pins s σ0 H (fun _ _ => False) I (stat H nn) tt go) fun r s1 hr => ?_
    obtain ⟨u, rfl, h1⟩ := hr
    refine wpAny_bind (thn h1 fun _ s2 h2 => ?_)
    obtain ⟨x, H2, I2, rx, yy, t2, n2⟩ := h2
    have ob := wk.obj (i + 1) s2.heap t2
    have P2 := I2.pinned (stat H2 n2) ob
    refine wpAny_bind (wpAny_mono (pg.run _ s2 σ0 H2 x u _ P2 rx (step x H2 yy)) (fun _ s3 h3 => ?_) fun v s z => (hx v s z).elim)
    obtain ⟨σ3, H3, I3, q3⟩ := h3
    refine thn (rest σ3 H3 q3 _ s3 I3) fun fin s4 h4 => ?_
    obtain ⟨rfl, H4, σ4, m', I4, hl, hk, hm, w4⟩ := h4
    have pin : ∀ b ∈ fp, ∀ o, s2.heap.get? b = some o → s4.heap.get? b = some o ∧ H4 b = none := fun b hb o e =>
      have z := I4.pin (b, o) (List.mem_append_right _ (List.mem_append_right _ (mem_pinsAt hb e)))
      ⟨z.1, z.2.1⟩
    refine ⟨rfl, m', hm, i + 1, H4, I4.unpinned.weak hl hk, wk.keep _ _ _ t2 fun b hb o e => (pin b hb o e).1, fun b hb => ?_, w4⟩
    obtain ⟨o, e, _⟩ := ob b hb
    exact (pin b hb o e).2
end
section
open PySem.Spec
variable {prog : Program} {w : World} {A : Around} {R : Result → Shared → Prop} {s : Shared}
theorem start_at {elt : Expr} {gs : List Comprehension} {scope : Scope} {pos : Pos} {e : Expr} (he : e = .SetComp elt gs scope pos) {d : Nat} {cl : Comprehension} {it : Addr} {acc : Value} {env : Env} (hu : A.under (.compStart e d (.ref it) acc env) = A) (hq : (Code.compLoop e d (.ref it) acc env).quiet = true) (hcl : (clausesOf e)[d]? = some cl) (ha : (cl.is_async != 0) = false)
    (self : ∀ (Q : Value → Shared → Prop) (E : Value → Shared → Prop), Q (.ref it) s → wpAny (model prog w) A (pyIter (.ref it)) Q E s) (h0 : codeAny (model prog w) A (.compLoop e d (.ref it) acc env) R s) : codeAny (model prog w) A (.compStart e d (.ref it) acc env) R s := by
  refine codeAny_of_tree ?_
  subst he
  rw [hu]
  show wpAny _ _ ((compStart (.SetComp elt gs scope pos) d (.ref it) acc env).onRaise (fun x => do noteFrame x env; standAt theWindowsPlace)) _ _ s
  refine wpAny_notedAt ?_
  unfold compStart
  have ha' : ((clausesOf (.SetComp elt gs scope pos))[d]?).elim false (fun x => x.is_async != 0) = false := by rw [hcl]; exact ha
  refine wpAny_ite ?_
  split
  · rename_i hz
    rw [ha'] at hz
    cases hz
  refine wpAny_bind (wpAny_askSetting (wpAny_ite ?_))
  split
  · exact wpAny_pure ⟨hq, h0⟩
  · refine wpAny_bind (wpAny_rule ?_)
    rw [hcl]
    exact wpAny_bind (wpAny_standAt (wpAny_bind (self _ _ (wpAny_pure ⟨hq, h0⟩))))
end
section
variable {X : Cx}
/-- the set D that grows by the ints of an inner walk in each turn of an outer one; W, W1: what stands between turns, with measures -/
def In2 (w : World) (g1 : TG) (te : TE) (vs1 : List Nat) (σ2 : L2.St) (D : Addr) (Nx : Hp → Prop) (J1 : It) (H3 : Hp) : Prop := ∃ W1 : Nat → Nat → Hp → Prop, (∃ m1, W1 0 m1 H3) ∧ ∀ j k H, W1 j k H →
    (J1.stop j H ∧ Nx H) ∨ (J1.go j H ∧ ∃ N1 : Hp → Prop, (∀ H', N1 H' → ∃ k', k' < k ∧ W1 (j + 1) k' H') ∧ ∀ y H', J1.yld j H y H' → g1 y (wipe σ2 vs1) H' fun σ3 H5 => wipe σ3 vs1 = wipe σ2 vs1 ∧ te σ3 H5 fun z H6 =>
      ∃ (a : Int) (S : Int → Bool) (c : Nat), z = .int a ∧ H6 D = some (SetO w D S c) ∧ c + 1 < scanBound ∧ N1 (upd H6 D (SetO w D (fun b => S b || decide (b = a)) (if S a = true then c else c + 1))))
def tSc2 (w : World) (wi : TI) (g : TG) (wi1 : TI) (g1 : TG) (te : TE) (vs vs1 : List Nat) : TE := fun σ H Q => wi σ H fun J H1 => ∀ D, H1 D = none → ∃ W : Nat → Nat → Hp → Prop, (∃ m, W 0 m (upd H1 D (SetO w D (fun _ => false) 0))) ∧ ∀ i m H, W i m H →
  (J.stop i H ∧ Q (.ref D) H) ∨ (J.go i H ∧ ∃ Nx : Hp → Prop, (∀ H', Nx H' → ∃ m', m' < m ∧ W (i + 1) m' H') ∧ ∀ x H', J.yld i H x H' → g x (wipe σ vs) H' fun σ2 H2 => wipe σ2 vs = wipe σ vs ∧ wi1 σ2 H2 (In2 w g1 te vs1 σ2 D Nx))
theorem out2_it {w : World} {J : It} {n : Nat} {Gd : Hp → Prop} {Y : Nat → Hp → V → Hp → Prop} (wk : Walk J n Gd Y) {g g1 : TG} {wi1 : TI} {te : TE} {vs vs1 : List Nat} {σ : L2.St} {H0 : Hp} {D : Addr} {Qd : Hp → Prop} (Pv : Nat → Hp → Prop) (h0 : Pv 0 H0) (hG : ∀ i H, i ≤ n → Pv i H → Gd H)
    (hs : ∀ i x H H', i < n → Pv i H → Y i H x H' → g x (wipe σ vs) H' fun σ2 H2 => wipe σ2 vs = wipe σ vs ∧ wi1 σ2 H2 (In2 w g1 te vs1 σ2 D (Pv (i + 1)))) (hd : ∀ H, Pv n H → Qd H) :
    ∃ W : Nat → Nat → Hp → Prop, (∃ m, W 0 m H0) ∧ ∀ i m H, W i m H → (J.stop i H ∧ Qd H) ∨ (J.go i H ∧ ∃ Nx : Hp → Prop, (∀ H', Nx H' → ∃ m', m' < m ∧ W (i + 1) m' H') ∧ ∀ x H', J.yld i H x H' → g x (wipe σ vs) H' fun σ2 H2 => wipe σ2 vs = wipe σ vs ∧ wi1 σ2 H2 (In2 w g1 te vs1 σ2 D Nx)) := by
  refine ⟨fun i m H => (i + m = n) ∧ Pv i H, ⟨n, by omega, h0⟩, fun i m H hW => ?_⟩
  obtain ⟨e, p⟩ := hW
  have gd := hG i H (by omega) p
  cases m with
  | zero =>
    have e' : i = n := by omega
    subst e'
    exact .inl ⟨wk.stops H gd, hd H p⟩
  | succ m => exact .inr ⟨wk.goes i H (by omega) gd, Pv (i + 1), fun H' p' => ⟨m, Nat.lt_succ_self m, by omega, p'⟩, fun x H' y => hs i x H H' (by omega) p (wk.yields i H x H' (by omega) gd y)⟩
theorem in2_it {w : World} {J1 : It} {n : Nat} {Gd : Hp → Prop} {Y : Nat → Hp → V → Hp → Prop} (wk : Walk J1 n Gd Y) {g1 : TG} {te : TE} {vs1 : List Nat} {σ2 : L2.St} {D : Addr} {Nx : Hp → Prop} {H3 : Hp} (Pv : Nat → Hp → Prop) (h0 : Pv 0 H3) (hG : ∀ i H, i ≤ n → Pv i H → Gd H)
    (hs : ∀ j y H H', j < n → Pv j H → Y j H y H' → g1 y (wipe σ2 vs1) H' fun σ3 H5 => wipe σ3 vs1 = wipe σ2 vs1 ∧ te σ3 H5 fun z H6 => ∃ (a : Int) (S : Int → Bool) (c : Nat), z = .int a ∧ H6 D = some (SetO w D S c) ∧ c + 1 < scanBound ∧ Pv (j + 1) (upd H6 D (SetO w D (fun b => S b || decide (b = a)) (if S a = true then c else c + 1))))
    (hd : ∀ H, Pv n H → Nx H) : In2 w g1 te vs1 σ2 D Nx J1 H3 := by
  refine ⟨fun i m H => (i + m = n) ∧ Pv i H, ⟨n, by omega, h0⟩, fun i m H hW => ?_⟩
  obtain ⟨e, p⟩ := hW
  have gd := hG i H (by omega) p
  cases m with
  | zero =>
    have e' : i = n := by omega
    subst e'
    exact .inl ⟨wk.stops H gd, hd H p⟩
  | succ m => exact .inr ⟨wk.goes i H (by omega) gd, Pv (i + 1), fun H' p' => ⟨m, Nat.lt_succ_self m, by omega, p'⟩, fun y H' yy => hs i y H H' (by omega) p (wk.yields i H y H' (by omega) gd yy)⟩
theorem kept_of {σ σ2 : L2.St} {vs : List Nat} (h : wipe σ2 vs = wipe σ vs) : (wipe σ vs).length = σ2.length ∧ ∀ (j : Nat) v, (wipe σ vs)[j]? = some (some v) → σ2[j]? = some (some v) := by
  rw [← h]
  exact ⟨wipe_length _ _, fun j v e => (wipe_some e).1⟩
theorem pe_sc2 {elt tg iter tg1 iter1 : Expr} {scope : Scope} {own : List (Str × Nat)} {vs1 : List Nat} {pos : Pos} {wi wi1 : TI} {g g1 : TG} {te : TE} (hc : X.calm = true) (hN : X.N.Nodup) (hi : PI X tg iter wi) (ok : BlkOk X.N X.env.scope scope own) (hv : ∀ i ∈ vs1, i ∈ own.map (·.2))
    (hg : ∀ s H C cl fp, PG (X.blk s H scope (compEnvC scope cl C X.env) fp) tg g) (hi1 : ∀ s H C cl fp, PI (X.blk s H scope (compEnvC scope cl C X.env) fp) tg1 iter1 wi1) (hg1 : ∀ s H C cl fp, PG (X.blk s H scope (compEnvC scope cl C X.env) fp) tg1 g1)
    (he : ∀ s H C cl fp, PE (X.blk s H scope (compEnvC scope cl C X.env) fp) elt te) (hs : ∀ x, foldedSetIterable iter X.env x = pure x := by intro _; rfl) (hs1 : ∀ env x, foldedSetIterable iter1 env x = pure x := by intro _ _; rfl) :
    PE X (two elt tg iter tg1 iter1 scope pos) (tSc2 X.w wi g wi1 g1 te (own.map (·.2)) vs1) := by
  refine ⟨fun pins s σ H Q I h => ?_⟩
  have seen : ∀ y ∈ scope.names, y.2 = .free → ∃ c, X.env.cells.lookup y.1 = some c := fun y hy e => (ok.free y hy e).elim (fun z => I.ok.has _ (.inl z)) fun z => I.ok.has _ (.inr z)
  show wpAny _ _ (comprehension (two elt tg iter tg1 iter1 scope pos) scope X.env (firstIterPos [⟨tg, iter, [], 0⟩, ⟨tg1, iter1, [], 0⟩] pos) (newSet (.type "set")) false (eval iter X.env)) _ _ s
  refine wpAny_comprehension_free (use := none) rfl hs (closure_ok seen) ok.kind (fun y hy e => (ok.uniq y hy).trans (by rw [e])) (thn (hi.run pins s σ H _ I h) fun _ s1 h1 => thn h1 fun _ s2 h2 => ?_)
  obtain ⟨it, fp, tn, J, H2, rfl, I2, wk, t2, f2, q⟩ := h2
  refine PpSet.newSet_ok (newEnv_comp ?_)
  obtain ⟨D, eD⟩ : ∃ D, D = s2.heap.objs.size := ⟨_, rfl⟩
  have nD : H2 D = none := I2.hok.fresh (Nat.le_of_eq eD.symm)
  obtain ⟨W, ⟨m0, w0⟩, turn⟩ := q D nD
  rw [← eD]
  obtain ⟨s3, e3⟩ : ∃ s3 : Shared, s3 = { s2 with heap := s2.heap.push { cls := .type "set", dict := none, data := .set #[] 0 (.fresh 0 0 (!X.w.params.followText "set-order")) } } := ⟨_, rfl⟩
  have I3 : Inv X pins σ (upd H2 D (SetO X.w D (fun _ => false) 0)) s3 := by
    rw [e3]
    refine I2.laid (t' := s2.toks) (fun b o e => Heap.get?_push_of_some _ e) (Nat.le_of_eq eD.symm) (setO_new ?_)
    rw [eD]
    exact setR_fresh X.w
  have up3 : ∀ b o, s2.heap.get? b = some o → s3.heap.get? b = some o := fun b o e => by rw [e3]; exact Heap.get?_push_of_some _ e
  have old : ∀ b ∈ fp, b < s2.heap.objs.size := fun b hb => (wk.obj _ _ t2 b hb).elim fun o z => Heap.lt_size z.1
  have f3 : ∀ b ∈ fp, FpOk X pins (upd H2 D (SetO X.w D (fun _ => false) 0)) b ∧ b < s3.heap.objs.size := fun b hb => by
    have l := old b hb
    refine ⟨⟨?_, (f2 b hb).2⟩, ?_⟩
    · rw [upd_ne (by rw [eD]; exact Nat.ne_of_lt l)]
      exact (f2 b hb).1
    · rw [e3]
      show b < (s2.heap.push _).objs.size
      rw [Heap.size_push]
      exact Nat.lt_succ_of_lt l
  have t3 : tn 0 s3.heap := wk.keep _ _ _ t2 fun b _ => up3 b
  have I4 := block_start I3 ok hN f3
  obtain ⟨ce, ece⟩ : ∃ ce, ce = compEnvC scope (cellsFrom (s3.heap.objs.size + 1) scope.names (cloFrom X.env.cells scope.names [])) s3.heap.objs.size X.env := ⟨_, rfl⟩
  obtain ⟨H3, eH⟩ : ∃ H3, H3 = upd H2 D (SetO X.w D (fun _ => false) 0) := ⟨_, rfl⟩
  obtain ⟨s4, e4⟩ : ∃ s4 : Shared, s4 = { s3 with heap := pushCells (s3.heap.push { cls := .type "dict", data := .dict #[] }) scope.names } := ⟨_, rfl⟩
  have pg := hg s3 H3 s3.heap.objs.size (cellsFrom (s3.heap.objs.size + 1) scope.names (cloFrom X.env.cells scope.names [])) fp
  have pg1 := hg1 s3 H3 s3.heap.objs.size (cellsFrom (s3.heap.objs.size + 1) scope.names (cloFrom X.env.cells scope.names [])) fp
  have pi1 := hi1 s3 H3 s3.heap.objs.size (cellsFrom (s3.heap.objs.size + 1) scope.names (cloFrom X.env.cells scope.names [])) fp
  have pe := he s3 H3 s3.heap.objs.size (cellsFrom (s3.heap.objs.size + 1) scope.names (cloFrom X.env.cells scope.names [])) fp
  rw [← ece] at pg pg1 pi1 pe I4
  rw [← eH] at I3 I4 f3 w0
  rw [← e4] at I4
  have here : ce.locals = s3.heap.objs.size := by rw [ece]; rfl
  have t4 : tn 0 s4.heap := wk.keep _ _ _ t3 fun b _ o e => by rw [e4]; exact pushCells_keeps _ _ _ _ (Heap.get?_push_of_some _ e)
  have goal : codeAny (model X.prog X.w) X.A (.compStart (two elt tg iter tg1 iter1 scope pos) 0 (.ref it) (.ref D) ce) (compPost (model X.prog X.w) X.A X.xe none (EP X pins σ Q) (.ref D) s3.heap.objs.size) s4 := by
    have nfp : ∀ b ∈ fp, H3 b = none := fun b hb => (f3 b hb).1.1
    have stat : ∀ H', (∀ b ∈ fp, H' b = none) → ∀ b ∈ fp, FpOk (X.blk s3 H3 scope ce fp) [] H' b := fun H' hn b hb =>
      ⟨hn b hb, (I4.ok.exf b hb).1, I4.ok.exfs b hb, .inl hb, fun x c e => (I4.ok.exf b hb).2 x c e, fun p hp => absurd (show p ∈ ([] : List (Addr × Obj)) from hp) (by simp)⟩
    refine start_at rfl rfl rfl (cl := ⟨tg, iter, [], 0⟩) rfl rfl (fun Q' E' z => wk.self X.A 0 _ Q' E' t4 z) ?_
    refine clause (Y := X.blk s3 H3 scope ce fp) hc rfl rfl wk pg stat (at_ := iter.pos) (body := _) (by
      show (compTurn (two elt tg iter tg1 iter1 scope pos) 0 (.ref it) (.ref D) ce).onRaise _ = _
      rw [two_turn0]) W (fun i m H ww => ?_) (fun _ _ z => z) I4 t4 nfp w0
    rcases turn i m H ww with ⟨st, qq⟩ | ⟨go, Nx, hNx, step⟩
    · refine .inl ⟨st, fun s5 I5 => ?_⟩
      have I6 : Inv X pins σ H s5 := I3.call' (ch := fp) I5.os I5.base I5.hok I5.bare fun b hb => by
        obtain ⟨_, z1, _, z3, z4, z5⟩ := (f3 b hb).1
        exact ⟨z3, z1, z4, z5⟩
      have free : H s3.heap.objs.size = none := by rw [← here]; exact I5.free
      obtain ⟨k, hk, _⟩ := I5.loc
      have hk : s5.heap.Ns ce.locals k := hk
      rw [here] at hk
      refine ⟨k, hk, fun h' sb => ?_⟩
      obtain ⟨z0, z1, _, z3, z4, z5⟩ := I3.fpOk (Nat.le_refl _) free
      exact ⟨.ref D, H, I6.turned (t' := s5.toks) (fun b o hb e => (sb.2 b hb).trans e) z0 z1 z3 z4 z5, rfl, qq⟩
    · refine .inr ⟨go, _, step, fun σ2 H4 hP pins' s5 I5 => ?_⟩
      obtain ⟨ew, hin⟩ := hP
      have kn : ∀ (j : Nat) v, (wipe σ (own.map (·.2)))[j]? = some (some v) → (wipe σ2 vs1)[j]? = some (some v) := fun j v e => by
        rw [← ew] at e
        obtain ⟨a1, a2⟩ := wipe_some e
        rw [wipe_out fun z => a2 (hv j z)]
        exact a1
      have ln : (wipe σ (own.map (·.2))).length = (wipe σ2 vs1).length := by rw [← ew, wipe_length, wipe_length]
      refine wpAny_bind (thn (pi1.run _ s5 σ2 H4 _ I5 hin) fun xv s6 h6 => ?_)
      refine wpAny_bind (wpAny_standAt (wpAny_bind (wpAny_of_eq (hs1 ce xv) (wpAny_bind (wpAny_holding (thn h6 fun jv s7 h7 => ?_))))))
      obtain ⟨it1, fp1, tn1, J1, H5, rfl, I7, wk1, t7, f7, W1, ⟨m1, w1⟩, turn1⟩ := h7
      refine wpAny_bind (wpAny_runOwn ?_)
      rw [Around.mark_none]
      refine codeAny_mono (R := fun r s' => match r with
        | .ok _ => ∃ H8 σ3 m', Inv (X.blk s3 H3 scope ce fp) pins' σ3 H8 s' ∧ (wipe σ (own.map (·.2))).length = σ3.length ∧ (∀ (j : Nat) v, (wipe σ (own.map (·.2)))[j]? = some (some v) → σ3[j]? = some (some v)) ∧ m' < m ∧ W (i + 1) m' H8
        | .error _ => False) ?_ (fun r s' hr => ?_)
      · refine start_at rfl rfl rfl (cl := ⟨tg1, iter1, [], 0⟩) rfl rfl (fun Q' E' z => wk1.self X.A 0 _ Q' E' t7 z) ?_
        refine clause (Y := X.blk s3 H3 scope ce fp) (pins := pins') (σ0 := wipe σ2 vs1) hc rfl rfl wk1 pg1 (fun H' hn b hb => ⟨hn b hb, (f7 b hb).2⟩) (at_ := iter1.pos) (body := _) (by
          show (compTurn (two elt tg iter tg1 iter1 scope pos) 1 (.ref it1) (.ref D) ce).onRaise _ = _
          rw [two_turn1]) W1 (fun j k H ww1 => ?_) (fun _ _ z => z) (I7.weak (wipe_length _ _) fun j v e => (wipe_some e).1) t7 (fun b hb => (f7 b hb).1) w1
        rcases turn1 j k H ww1 with ⟨st1, nx⟩ | ⟨go1, N1, hN1, step1⟩
        · obtain ⟨m', hm, w'⟩ := hNx H nx
          exact .inl ⟨st1, fun s8 I8 => ⟨H, wipe σ2 vs1, m', I8, ln, kn, hm, w'⟩⟩
        · refine .inr ⟨go1, _, step1, fun σ3 H6 hP1 pins2 s8 I8 => ?_⟩
          obtain ⟨ew1, hel⟩ := hP1
          refine wpAny_bind (wpAny_bind (thn (pe.run _ s8 σ3 H6 _ I8 hel) fun z s9 h9 => ?_))
          obtain ⟨yv, H7, I9, r9, a, S, c, rfl, hD7, room, nx1⟩ := h9
          obtain ⟨k', hk', w'⟩ := hN1 _ nx1
          refine wpAny_bind (wpAny_standAt (wpAny_bind (thn (mt_sadd (X := X.blk s3 H3 scope ce fp) _ s9 σ3 H7 (.ref D) [.int a] (.ref D) [z] (fun _ H9 => H9 = upd H7 D (SetO X.w D (fun b => S b || decide (b = a)) (if S a = true then c else c + 1))) I9 rfl (.cons r9 .nil) ⟨D, a, S, c, rfl, rfl, hD7, room, rfl⟩) fun u s10 h10 => ?_)))
          obtain ⟨_, H9, I10, _, rfl⟩ := h10
          obtain ⟨l3, k3⟩ := kept_of ew1
          exact wpAny_pure (wpAny_pure ⟨rfl, _, σ3, k', I10, l3, k3, hk', w'⟩)
      · cases r with
        | ok f => exact wpAny_pure ⟨rfl, hr⟩
        | error e => exact hr.elim
  rw [e4, ece, e3] at goal
  exact goal
end
end FF
namespace FF
open PySem PySem.Spec PyProof.Rows L2
variable [LT]
/-! ### rows as the program and the laws tell of them -/
theorem atI_last {xs : List V} {x : V} (h : xs[xs.length - 1]? = some x) : atI xs (-1) = some x := by
  have hl := (List.getElem?_eq_some_iff.mp h).1
  have e : ixN xs.length (-1) = some (xs.length - 1) := by
    unfold ixN
    rw [if_neg (by omega), if_pos (by omega)]
    congr 1
    omega
  unfold atI
  rw [e]
  exact h
end FF
namespace FF
open PySem PySem.Spec PyProof.Rows L2
variable [LT]
/-! ### the search for a free tie: who pushes whom, and how far each is -/
section
variable {ts : List (Int × Int)} {ws : List V} {k : Int}
/-- levels tell how short a row may be -/
theorem LevP.least {tie : Nat} {m : Int} {ls : List Int} (hw : ws.length = ts.length) (h : LevP ts k ws tie m ls) : ∀ {es : List (Int × Int)} {e : Int × Int} {r : List (Int × Int)}, es = e :: r → PRow ts ws k es → (e.1 = tie ∨ ws[e.1.toNat]? ≠ some .non) → m ≤ es.length + hat ls e.1
  | [], _, _, h0, _, _ => nomatch h0
  | [e], _, _, h0, hp, hx => by
    cases h0
    obtain ⟨⟨a0, a1⟩, f0, f1⟩ := hp.bd e (List.mem_singleton.mpr rfl)
    have hj : joinB ts ws e = false := by
      have := hp.push
      show joinB ts ws e = false
      have this : (!joinB ts ws e) = true := this
      cases z : joinB ts ws e with
      | false => rfl
      | true => rw [z] at this; cases this
    obtain ⟨i, hi⟩ : ∃ i : Nat, e.1 = i := ⟨e.1.toNat, by omega⟩
    have hl := h.2 e.2 f0 f1 i (by omega) (hx.imp (fun z => by omega) fun z => by rw [hi, Int.toNat_natCast] at z; exact z) (fun z => by
      have := hp.lay e (List.mem_singleton.mpr rfl)
      unfold layB at this
      rw [hi, Int.toNat_natCast, decide_eq_true z] at this
      cases this)
    rw [show (((i : Nat) : Int), e.2) = e by rw [← hi]] at hl
    unfold lowB at hl
    rw [if_neg (by rw [hj]; decide)] at hl
    have := of_decide_eq_true hl
    show m ≤ 1 + hat ls e.1
    omega
  | e :: e' :: r, _, _, h0, hp, hx => by
    cases h0
    obtain ⟨⟨a0, a1⟩, f0, f1⟩ := hp.bd e List.mem_cons_self
    obtain ⟨hj, ho, _⟩ := pushB_parts.mp hp.push
    obtain ⟨i, hi⟩ : ∃ i : Nat, e.1 = i := ⟨e.1.toNat, by omega⟩
    have hl := h.2 e.2 f0 f1 i (by omega) (hx.imp (fun z => by omega) fun z => by rw [hi, Int.toNat_natCast] at z; exact z) (fun z => by
      have := hp.lay e List.mem_cons_self
      unfold layB at this
      rw [hi, Int.toNat_natCast, decide_eq_true z] at this
      cases this)
    rw [show (((i : Nat) : Int), e.2) = e by rw [← hi]] at hl
    unfold lowB at hl
    rw [if_pos hj] at hl
    have h1 := (@of_decide_eq_true _ (Classical.propDecidable _) hl) e'.1 ho
    have h2 := LevP.least hw h rfl hp.tail (.inr fun z => by
      have := (nums_iff.mp ho.1).2
      rw [this] at z
      cases z)
    rw [List.length_cons] at h2 ⊢
    have : ((r.length + 1 + 1 : Nat) : Int) = ((r.length + 1 : Nat) : Int) + 1 := by omega
    show m ≤ (((e' :: r).length + 1 : Nat) : Int) + hat ls e.1
    rw [List.length_cons]
    omega
theorem LevP.Least {tie : Nat} {ls : List Int} (hw : ws.length = ts.length) {e : Int × Int} {r : List (Int × Int)} (h : LevP ts k ws tie ((e :: r).length : Int) ls) (he : e.1 = tie) : FF.Least ts ws k (e :: r) := fun e' r' hp he' => by
  have := LevP.least hw h (es := e' :: r') rfl hp (.inl (he'.trans he))
  rw [he'.trans he, h.1, List.length_cons, List.length_cons] at this
  omega
/-- what pushes come to, closed -/
theorem closed_keys {e : Int} {R : List Int} (hL : LayK ts k ws) (he : 0 ≤ e ∧ e < (ts.length : Int)) (hnd : R.Nodup) (mem : ∀ t, t ∈ R ↔ Rch ts ws k e t) (ring : ∀ t, Rch ts ws k e t → ∀ f, 0 ≤ f → f < k → ws[t.toNat]? ≠ some (.int f) → jn ts (numsFrom f 0 ws) (tk ts t).1 (tk ts t).2 ∧ ∀ x, OnR ts (numsFrom f 0 ws) t x → Rch ts ws k e x) : Closed ts ws k R := by
  have hl := hL.len
  refine ⟨hnd, fun t ht => ((mem t).mp ht).rng hl he, fun t ht f f0 f1 hn => ?_, fun t ht s hs => ?_⟩
  · obtain ⟨a, b⟩ := ring t ((mem t).mp ht) f f0 f1 hn
    exact ⟨a, fun x hx => (mem x).mpr (b x hx)⟩
  · have go : ∀ t, Rch ts ws k e t → jn ts R (tk ts t).1 (tk ts e).1 := fun t ht => by
      induction ht with
      | base => rfl
      | @step s t f hs f0 f1 hn hj ho ih =>
        obtain ⟨_, hring⟩ := ring s hs f f0 f1 hn
        have hF := (fo_nums hl).mpr (hL.tree f)
        obtain ⟨ns, hRg⟩ := ring_exists hF.nd hj
        have h1 := hRg.mem_iff hF.rl hF.nd
        have hsub : ∀ x ∈ ns, x ∈ R := fun x hx => (mem x).mpr (hring x ((h1 x).mp hx))
        obtain ⟨l1, l2, u, v, el, w1, w2, w3⟩ := hRg.way.cut ((h1 t).mpr ho)
        have e1 : jn ts R (tk ts s).1 u := w1.joined fun x hx => hsub x (by rw [el]; exact List.mem_append_left _ hx)
        have htR : t ∈ R := (mem t).mpr (.step hs f0 f1 hn hj ho)
        have e2 : jn ts R (tk ts t).1 (tk ts t).2 := Leads.foldR (ts := ts) htR (.inl rfl)
        have e3 : jn ts R (tk ts t).1 u := by
          rcases w2 with w2 | w2
          · have : (tk ts t) = (u, v) := w2
            rw [this]
          · have : (tk ts t) = (v, u) := w2
            rw [this] at e2 ⊢
            exact e2
        exact e3.trans (e1.symm.trans ih)
    exact (go t ((mem t).mp ht)).trans (go s ((mem s).mp hs)).symm
/-- keys with who pushes them, in the order of coming; lv: how far they are; the first a of them looked through -/
structure Bfs (ts : List (Int × Int)) (ws : List V) (k : Int) (tie : Nat) (fl : List (Int × Option (Int × Int))) (lv : Nat → Nat) (a : Nat) : Prop where
  head : fl[0]? = some ((tie : Int), none)
  nd : (fl.map Prod.fst).Nodup
  rng : ∀ x ∈ fl.map Prod.fst, 0 ≤ x ∧ x < (ts.length : Int)
  par : ∀ (i : Nat) x s f, fl[i]? = some (x, some (s, f)) → ∃ j, j < i ∧ (∃ o, fl[j]? = some (s, o)) ∧ lv i = lv j + 1 ∧ (0 ≤ f ∧ f < k) ∧ ws[s.toNat]? ≠ some (.int f) ∧ joinB ts ws (s, f) = true ∧ OnRing ts ws (s, f) x
  root : ∀ (i : Nat) x, fl[i]? = some (x, none) → i = 0
  lv0 : lv 0 = 0
  mono : ∀ i j, i ≤ j → j < fl.length → lv i ≤ lv j
  near : ∀ i, i < fl.length → a < fl.length → lv i ≤ lv a + 1
  done : ∀ j, j < a → ∀ s o, fl[j]? = some (s, o) → ∀ f, 0 ≤ f → f < k → ws[s.toNat]? ≠ some (.int f) → joinB ts ws (s, f) = true ∧ ∀ x, OnRing ts ws (s, f) x → ∃ i o', fl[i]? = some (x, o') ∧ lv i ≤ lv j + 1
variable {tie : Nat} {fl : List (Int × Option (Int × Int))} {lv : Nat → Nat} {a : Nat}
theorem Bfs.start (ht : tie < ts.length) : Bfs ts ws k tie [((tie : Int), none)] (fun _ => 0) 0 :=
  ⟨rfl, by simp, fun x hx => by rw [List.mem_singleton.mp hx]; omega, fun i x s f h => by
    cases i with
    | zero => cases h
    | succ i => simp at h, fun i x h => by
    cases i with
    | zero => rfl
    | succ i => simp at h, rfl, fun _ _ _ _ => Nat.le_refl _, fun _ _ _ => Nat.zero_le _, fun j hj => by omega⟩
theorem Bfs.add (h : Bfs ts ws k tie fl lv a) (hw : ws.length = ts.length) {s x f : Int} {o : Option (Int × Int)} (ha : fl[a]? = some (s, o)) (hx : x ∉ fl.map Prod.fst) (f0 : 0 ≤ f) (f1 : f < k) (hn : ws[s.toNat]? ≠ some (.int f)) (hj : joinB ts ws (s, f) = true) (ho : OnRing ts ws (s, f) x) : Bfs ts ws k tie (fl ++ [(x, some (s, f))]) (fun i => if i = fl.length then lv a + 1 else lv i) a := by
  have al : a < fl.length := (List.getElem?_eq_some_iff.mp ha).1
  have old : ∀ {i : Nat} {p}, fl[i]? = some p → (fl ++ [(x, some (s, f))])[i]? = some p ∧ i ≠ fl.length := fun {i p} e => by
    have := (List.getElem?_eq_some_iff.mp e).1
    exact ⟨by rw [List.getElem?_append_left this]; exact e, by omega⟩
  have cases_ : ∀ {i : Nat} {p}, (fl ++ [(x, some (s, f))])[i]? = some p → fl[i]? = some p ∨ (i = fl.length ∧ p = (x, some (s, f))) := fun {i p} e => by
    by_cases c : i < fl.length
    · rw [List.getElem?_append_left c] at e
      exact .inl e
    · have := (List.getElem?_eq_some_iff.mp e).1
      rw [List.length_append] at this
      have ei : i = fl.length := by
        have : i < fl.length + 1 := this
        omega
      rw [ei, List.getElem?_append_right (Nat.le_refl _), Nat.sub_self] at e
      exact .inr ⟨ei, (Option.some.inj e).symm⟩
  refine ⟨(old h.head).1, ?_, fun y hy => ?_, fun i y s' f' e => ?_, fun i y e => ?_, ?_, fun i j hij hj' => ?_, fun i hi _ => ?_, fun j hj' s' o' e f' g0 g1 hn' => ?_⟩
  · rw [List.map_append, List.nodup_append]
    exact ⟨h.nd, by simp, fun y hy z hz => by
      have e9 : z = x := List.mem_singleton.mp hz
      rw [e9]
      exact fun q => hx (by rw [← q]; exact hy)⟩
  · rw [List.map_append] at hy
    rcases List.mem_append.mp hy with hy | hy
    · exact h.rng y hy
    · have e9 : y = x := List.mem_singleton.mp hy
      rw [e9]
      have := nums_iff.mp ho.1
      refine ⟨this.1, ?_⟩
      have := (List.getElem?_eq_some_iff.mp this.2).1
      omega
  · rcases cases_ e with e | ⟨ei, e2⟩
    · obtain ⟨j, hj1, ⟨o', e'⟩, hl, r⟩ := h.par i y s' f' e
      refine ⟨j, hj1, ⟨o', (old e').1⟩, ?_, r⟩
      rw [if_neg (old e).2, if_neg (old e').2]
      exact hl
    · cases e2
      rw [ei]
      refine ⟨a, al, ⟨o, (old ha).1⟩, ?_, ⟨f0, f1⟩, hn, hj, ho⟩
      rw [if_pos rfl, if_neg (by omega)]
  · rcases cases_ e with e | ⟨_, e2⟩
    · exact h.root i y e
    · cases e2
  · show (if 0 = fl.length then _ else _) = 0
    rw [if_neg (by omega)]
    exact h.lv0
  · rw [List.length_append] at hj'
    have hj' : j < fl.length + 1 := hj'
    show (if i = fl.length then _ else _) ≤ (if j = fl.length then _ else _)
    by_cases c2 : j = fl.length
    · rw [if_pos c2]
      by_cases c1 : i = fl.length
      · rw [if_pos c1]
        exact Nat.le_refl _
      · rw [if_neg c1]
        exact h.near i (by omega) al
    · rw [if_neg c2, if_neg (by omega)]
      exact h.mono i j hij (by omega)
  · rw [List.length_append] at hi
    have hi : i < fl.length + 1 := hi
    show (if i = fl.length then _ else _) ≤ (if a = fl.length then _ else _) + 1
    rw [if_neg (show ¬ a = fl.length by omega)]
    by_cases c1 : i = fl.length
    · rw [if_pos c1]
      exact Nat.le_refl _
    · rw [if_neg c1]
      exact h.near i (by omega) al
  · rcases cases_ e with e | ⟨rfl, e⟩
    · obtain ⟨b1, b2⟩ := h.done j hj' s' o' e f' g0 g1 hn'
      refine ⟨b1, fun y hy => ?_⟩
      obtain ⟨i, o'', e', hl⟩ := b2 y hy
      refine ⟨i, o'', (old e').1, ?_⟩
      rw [if_neg (old e').2, if_neg (old e).2]
      exact hl
    · omega
theorem Bfs.next (h : Bfs ts ws k tie fl lv a) {s : Int} {o : Option (Int × Int)} (ha : fl[a]? = some (s, o)) (hd : ∀ f, 0 ≤ f → f < k → ws[s.toNat]? ≠ some (.int f) → joinB ts ws (s, f) = true ∧ ∀ x, OnRing ts ws (s, f) x → x ∈ fl.map Prod.fst) : Bfs ts ws k tie fl lv (a + 1) := by
  have al : a < fl.length := (List.getElem?_eq_some_iff.mp ha).1
  refine ⟨h.head, h.nd, h.rng, h.par, h.root, h.lv0, h.mono, fun i hi ha' => ?_, fun j hj s' o' e f f0 f1 hn => ?_⟩
  · have h1 := h.near i hi al
    have h2 := h.mono a (a + 1) (by omega) ha'
    omega
  · by_cases c : j < a
    · exact h.done j c s' o' e f f0 f1 hn
    · have ej : j = a := by omega
      subst ej
      rw [ha] at e
      cases e
      obtain ⟨b1, b2⟩ := hd f f0 f1 hn
      refine ⟨b1, fun x hx => ?_⟩
      obtain ⟨p, hp, rfl⟩ := List.mem_map.mp (b2 x hx)
      obtain ⟨i, hi⟩ := List.getElem?_of_mem hp
      exact ⟨i, p.2, hi, h.near i (List.getElem?_eq_some_iff.mp hi).1 al⟩
/-- one push more ahead of a row -/
theorem Bfs.step (h : Bfs ts ws k tie fl lv a) {i : Nat} {x s f g : Int} {r : List (Int × Int)} (e : fl[i]? = some (x, some (s, f))) (hp : PRow ts ws k ((x, g) :: r)) : PRow ts ws k ((s, f) :: (x, g) :: r) ∧ ∃ j o, j < i ∧ fl[j]? = some (s, o) ∧ lv i = lv j + 1 := by
  obtain ⟨j, hj, ⟨o', e'⟩, hlv, hf, hn, hjn, ho⟩ := h.par i x s f e
  exact ⟨hp.cons ⟨h.rng s (List.mem_map.mpr ⟨_, List.mem_of_getElem? e', rfl⟩), hf⟩ (layB_ne hn) hjn ho, j, o', hj, e', hlv⟩
theorem Bfs.key (h : Bfs ts ws k tie fl lv a) {i : Nat} {p : Int × Option (Int × Int)} (e : fl[i]? = some p) : p.1 ∈ fl.map Prod.fst := List.mem_map.mpr ⟨p, List.mem_of_getElem? e, rfl⟩
theorem Bfs.one (h : Bfs ts ws k tie fl lv a) {i j : Nat} {x : Int} {o o' : Option (Int × Int)} (e : fl[i]? = some (x, o)) (e' : fl[j]? = some (x, o')) : i = j := by
  have hi : (fl.map Prod.fst)[i]? = some x := by rw [List.getElem?_map, e]; rfl
  have hj : (fl.map Prod.fst)[j]? = some x := by rw [List.getElem?_map, e']; rfl
  obtain ⟨li, ei⟩ := List.getElem?_eq_some_iff.mp hi
  obtain ⟨lj, ej⟩ := List.getElem?_eq_some_iff.mp hj
  exact (List.getElem_inj h.nd).mp (ei.trans ej.symm)
theorem Bfs.levels (h : Bfs ts ws k tie fl lv a) (al : a < fl.length) {ls : List Int} (h1 : ∀ i x o, fl[i]? = some (x, o) → hat ls x = lv i) (h2 : ∀ x, 0 ≤ x → x < (ts.length : Int) → x ∉ fl.map Prod.fst → hat ls x = (lv a : Int) + 1) (hw : ws.length = ts.length) : LevP ts k ws tie ((lv a : Int) + 1) ls := by
  refine ⟨(h1 0 _ _ h.head).trans (by rw [h.lv0]; rfl), fun f f0 f1 s hs hp hn => ?_⟩
  have top : ∀ x, 0 ≤ x → x < (ts.length : Int) → hat ls x ≤ (lv a : Int) + 1 := fun x x0 x1 => by
    by_cases c : x ∈ fl.map Prod.fst
    · obtain ⟨p, hp, rfl⟩ := List.mem_map.mp c
      obtain ⟨i, hi⟩ := List.getElem?_of_mem hp
      rw [h1 i p.1 p.2 hi]
      have := h.near i (List.getElem?_eq_some_iff.mp hi).1 al
      omega
    · rw [h2 x x0 x1 c]
      exact Int.le_refl _
  have ringr : ∀ x, OnRing ts ws ((s : Int), f) x → 0 ≤ x ∧ x < (ts.length : Int) := fun x hx => by
    obtain ⟨x0, hx'⟩ := nums_iff.mp hx.1
    have := (List.getElem?_eq_some_iff.mp hx').1
    exact ⟨x0, by omega⟩
  unfold lowB
  by_cases cj : joinB ts ws ((s : Int), f) = true
  · rw [if_pos cj]
    refine @decide_eq_true _ (Classical.propDecidable _) fun x hx => ?_
    obtain ⟨x0, x1⟩ := ringr x hx
    have ht := top x x0 x1
    by_cases c : (s : Int) ∈ fl.map Prod.fst
    · obtain ⟨p, hp', ep⟩ := List.mem_map.mp c
      obtain ⟨j, hj⟩ := List.getElem?_of_mem hp'
      have ej := h1 j p.1 p.2 hj
      rw [ep] at ej
      show hat ls x ≤ hat ls (s : Int) + 1
      by_cases cja : j < a
      · obtain ⟨_, b2⟩ := h.done j cja p.1 p.2 hj f f0 f1 (by rw [ep, Int.toNat_natCast]; exact hn)
        rw [ep] at b2
        obtain ⟨i, o', hi, hl⟩ := b2 x hx
        rw [h1 i x o' hi, ej]
        omega
      · have := h.mono a j (by omega) (List.getElem?_eq_some_iff.mp hj).1
        omega
    · have := h2 (s : Int) (by omega) (by omega) c
      show hat ls x ≤ hat ls (s : Int) + 1
      omega
  · have cj : joinB ts ws ((s : Int), f) = false := by simpa using cj
    rw [if_neg (by rw [cj]; decide)]
    refine decide_eq_true ?_
    show hat ls (s : Int) ≥ (lv a : Int) + 1 - 1
    by_cases c : (s : Int) ∈ fl.map Prod.fst
    · obtain ⟨p, hp', ep⟩ := List.mem_map.mp c
      obtain ⟨j, hj⟩ := List.getElem?_of_mem hp'
      have ej := h1 j p.1 p.2 hj
      rw [ep] at ej
      by_cases cja : j < a
      · obtain ⟨b1, _⟩ := h.done j cja p.1 p.2 hj f f0 f1 (by rw [ep, Int.toNat_natCast]; exact hn)
        rw [ep, cj] at b1
        cases b1
      · have := h.mono a j (by omega) (List.getElem?_eq_some_iff.mp hj).1
        omega
    · have := h2 (s : Int) (by omega) (by omega) c
      omega
theorem Bfs.rch (h : Bfs ts ws k tie fl lv a) (hw : ws.length = ts.length) : ∀ (n i : Nat), i ≤ n → ∀ x o, fl[i]? = some (x, o) → Rch ts ws k (tie : Int) x
  | n, i, _, x, none, e => by
    have ei := h.root i x e
    subst ei
    rw [h.head] at e
    cases e
    exact .base
  | 0, i, hi, x, some (s, f), e => by
    obtain ⟨j, hj, _⟩ := h.par i x s f e
    omega
  | n + 1, i, hi, x, some (s, f), e => by
    obtain ⟨j, hj, ⟨o', e'⟩, _, ⟨f0, f1⟩, hn, hjn, ho⟩ := h.par i x s f e
    exact .step (h.rch hw n j (by omega) s o' e') f0 f1 hn ((jn_join (e := (s, f)) hw).mp hjn) ho
theorem Bfs.mem_rch (h : Bfs ts ws k tie fl lv a) (ha : fl.length ≤ a) (hw : ws.length = ts.length) : ∀ t, t ∈ fl.map Prod.fst ↔ Rch ts ws k (tie : Int) t := fun t => by
  constructor
  · intro z
    obtain ⟨p, hp, rfl⟩ := List.mem_map.mp z
    obtain ⟨i, hi⟩ := List.getElem?_of_mem hp
    exact h.rch hw i i (Nat.le_refl _) p.1 p.2 hi
  · intro z
    induction z with
    | base => exact h.key h.head
    | @step s t f hs f0 f1 hn hj ho ih =>
      obtain ⟨p, hp, rfl⟩ := List.mem_map.mp ih
      obtain ⟨j, hj'⟩ := List.getElem?_of_mem hp
      have jl := (List.getElem?_eq_some_iff.mp hj').1
      obtain ⟨_, b2⟩ := h.done j (by omega) p.1 p.2 hj' f f0 f1 hn
      obtain ⟨i, o', hi, _⟩ := b2 t ho
      exact h.key hi
theorem Bfs.closed (h : Bfs ts ws k tie fl lv a) (ha : fl.length ≤ a) (hL : LayK ts k ws) (ht : tie < ts.length) : Closed ts ws k (fl.map Prod.fst) := by
  have hw := hL.len
  have mem := h.mem_rch ha hw
  refine closed_keys hL ⟨by omega, by omega⟩ h.nd mem fun t ht' f f0 f1 hn => ?_
  obtain ⟨p, hp, rfl⟩ := List.mem_map.mp ((mem t).mpr ht')
  obtain ⟨j, hj'⟩ := List.getElem?_of_mem hp
  have jl := (List.getElem?_eq_some_iff.mp hj').1
  obtain ⟨b1, b2⟩ := h.done j (by omega) p.1 p.2 hj' f f0 f1 hn
  refine ⟨(jn_join (e := (p.1, f)) hw).mp b1, fun x hx => ?_⟩
  obtain ⟨i, o', hi, _⟩ := b2 x hx
  exact h.rch hw i i (Nat.le_refl _) x o' hi
/-- a row as long as the levels tell lays the tie -/
theorem PRow.lays {ls : List Int} {e : Int × Int} {r : List (Int × Int)} (hL : LayK ts k ws) (hp : PRow ts ws k (e :: r)) (he : e.1 = tie) (hl : LevP ts k ws tie ((e :: r).length : Int) ls) (h0 : ws[tie]? = some .non) : LayK ts k (pushL ws (e :: r)) ∧ ((e :: r).map Prod.fst).Nodup := by
  obtain ⟨hc, nd⟩ := Least.nocut hp (hl.Least hL.len he)
  refine ⟨hL.push nd hp.bd hp.lay hp.push (by rw [he, Int.toNat_natCast]; exact h0) hc, nd⟩
end
theorem Bfs.adds {ts : List (Int × Int)} {ws : List V} {k : Int} {tie : Nat} {a : Nat} (hw : ws.length = ts.length) {s f : Int} (f0 : 0 ≤ f) (f1 : f < k) (hn : ws[s.toNat]? ≠ some (.int f)) (hj : joinB ts ws (s, f) = true) : ∀ (xs : List Int) {fl : List (Int × Option (Int × Int))} {lv : Nat → Nat} {o : Option (Int × Int)}, Bfs ts ws k tie fl lv a → fl[a]? = some (s, o) → xs.Nodup → (∀ x ∈ xs, x ∉ fl.map Prod.fst ∧ OnRing ts ws (s, f) x) → ∃ lv', Bfs ts ws k tie (fl ++ xs.map fun x => (x, some (s, f))) lv' a
  | [], fl, lv, o, h, _, _, _ => ⟨lv, by rw [List.map_nil, List.append_nil]; exact h⟩
  | x :: xs, fl, lv, o, h, ha, nd, hx => by
    obtain ⟨h1, h2⟩ := List.nodup_cons.mp nd
    obtain ⟨x1, x2⟩ := hx x List.mem_cons_self
    have h' := h.add hw ha x1 f0 f1 hn hj x2
    have al := (List.getElem?_eq_some_iff.mp ha).1
    obtain ⟨lv', hb⟩ := Bfs.adds hw f0 f1 hn hj xs h' (by rw [List.getElem?_append_left al]; exact ha) h2 fun y hy => by
      obtain ⟨y1, y2⟩ := hx y (List.mem_cons_of_mem _ hy)
      refine ⟨fun z => ?_, y2⟩
      rw [List.map_append] at z
      rcases List.mem_append.mp z with z | z
      · exact y1 z
      · have z : y = x := List.mem_singleton.mp z
        rw [z] at hy
        exact h1 hy
    rw [List.append_assoc] at hb
    exact ⟨lv', hb⟩
/-- from what is closed no row comes -/
theorem Closed.no_row {ts : List (Int × Int)} {ws : List V} {k : Int} {R : List Int} (h : Closed ts ws k R) (hw : ws.length = ts.length) : ∀ {es : List (Int × Int)} {e : Int × Int} {r : List (Int × Int)}, es = e :: r → PRow ts ws k es → e.1 ∈ R → False
  | [], _, _, h0, _, _ => nomatch h0
  | [e], _, _, h0, hp, hR => by
    cases h0
    obtain ⟨_, f0, f1⟩ := hp.bd e (List.mem_singleton.mpr rfl)
    have hl := hp.lay e (List.mem_singleton.mpr rfl)
    obtain ⟨hj, _⟩ := h.ring e.1 hR e.2 f0 f1 (of_decide_eq_false hl)
    have := push_last hp.push (e := e) rfl
    rw [(jn_join hw).mpr hj] at this
    cases this
  | e :: e' :: r, _, _, h0, hp, hR => by
    cases h0
    obtain ⟨_, f0, f1⟩ := hp.bd e List.mem_cons_self
    have hl := hp.lay e List.mem_cons_self
    obtain ⟨_, hr⟩ := h.ring e.1 hR e.2 f0 f1 (of_decide_eq_false hl)
    exact h.no_row hw rfl hp.tail (hr e'.1 (pushB_parts.mp hp.push).2.1)
section
variable {ts : List (Int × Int)} {ws : List V} {k : Int} {tie : Nat} {H H' : Hp} {fl : List (Int × Addr)} {bf : List (Int × Option (Int × Int))} {lv : Nat → Nat} {a : Nat}
end
end FF
namespace FF
open PySem PySem.Spec PyProof.Rows L2
variable [LT]
/-! ### dicts from ints to any values -/
def kvV (pl : List (Int × V)) : List (Key × V) := pl.map fun p => (Sum.inl p.1, p.2)
theorem kvV_length (pl : List (Int × V)) : (kvV pl).length = pl.length := List.length_map _
theorem kvV_in : ∀ {pl : List (Int × V)} {x : Int} {v : V}, (pl.map Prod.fst).Nodup → (x, v) ∈ pl → valV (kvV pl) (Sum.inl x) = some v
  | p :: pl, x, v, nd, h => by
    rw [List.map_cons, List.nodup_cons] at nd
    rcases List.mem_cons.mp h with h | h
    · rw [← h]
      exact valV_pos rfl
    · have hne : p.1 ≠ x := fun z => nd.1 (List.mem_map.mpr ⟨(x, v), h, z.symm⟩)
      exact (valV_neg (p := (Sum.inl p.1, p.2)) (r := kvV pl) fun z => hne (Sum.inl.inj z)).trans (kvV_in nd.2 h)
theorem kvV_out {pl : List (Int × V)} {x : Int} (h : x ∉ pl.map Prod.fst) : valV (kvV pl) (Sum.inl x) = none := by
  unfold valV kvV
  rw [List.find?_eq_none.mpr fun y hy => ?_]
  · rfl
  · obtain ⟨p, hp, rfl⟩ := List.mem_map.mp hy
    rw [decide_eq_false fun z => h (List.mem_map.mpr ⟨p, hp, Sum.inl.inj z⟩)]
    decide
theorem kvV_put {pl : List (Int × V)} {x : Int} {v : V} (h : x ∉ pl.map Prod.fst) : putK (kvV pl) (Sum.inl x) v = kvV (pl ++ [(x, v)]) := by
  unfold putK
  rw [valV_any, kvV_out h]
  show kvV pl ++ [(Sum.inl x, v)] = _
  unfold kvV
  rw [List.map_append]
  rfl
/-- who pushes a tie, as a value -/
def PaV (H : Hp) (v : V) (o : Option (Int × Int)) : Prop := match o with
  | none => v = .non
  | some (s, f) => ∃ q, v = .ref q ∧ H q = some (.tup [.int s, .int f])
theorem PaV.mono {H H' : Hp} {v : V} {o : Option (Int × Int)} (h : PaV H v o) (k : ∀ q xs, H q = some (.tup xs) → H' q = some (.tup xs)) : PaV H' v o := by
  cases o with
  | none => exact h
  | some e =>
    obtain ⟨q, e1, e2⟩ := h
    exact ⟨q, e1, k _ _ e2⟩
def PaL (H : Hp) (pl : List (Int × V)) (fl : List (Int × Option (Int × Int))) : Prop := Paired (fun (p : Int × V) (e : Int × Option (Int × Int)) => p.1 = e.1 ∧ PaV H p.2 e.2) pl fl
theorem PaL.mono {H H' : Hp} {pl : List (Int × V)} {fl : List (Int × Option (Int × Int))} (h : PaL H pl fl) (k : ∀ q xs, H q = some (.tup xs) → H' q = some (.tup xs)) : PaL H' pl fl := L2.Paired.mapP h fun _ _ ⟨a, b⟩ => ⟨a, b.mono k⟩
theorem PaL.length {H : Hp} {pl : List (Int × V)} {fl : List (Int × Option (Int × Int))} (h : PaL H pl fl) : pl.length = fl.length := Paired.length h
theorem PaL.keys {H : Hp} {pl : List (Int × V)} {fl : List (Int × Option (Int × Int))} (h : PaL H pl fl) : pl.map Prod.fst = fl.map Prod.fst := by
  unfold PaL at h
  induction h with
  | nil => rfl
  | cons a _ ih => rw [List.map_cons, List.map_cons, a.1, ih]
theorem PaL.append {H : Hp} {pl pl2 : List (Int × V)} {fl fl2 : List (Int × Option (Int × Int))} (h : PaL H pl fl) (h2 : PaL H pl2 fl2) : PaL H (pl ++ pl2) (fl ++ fl2) := by
  unfold PaL at *
  induction h with
  | nil => exact h2
  | cons a _ ih => exact .cons a ih
theorem PaL.get {H : Hp} {pl : List (Int × V)} {fl : List (Int × Option (Int × Int))} (h : PaL H pl fl) {i : Nat} {x : Int} {o : Option (Int × Int)} (e : fl[i]? = some (x, o)) : ∃ v, (x, v) ∈ pl ∧ pl[i]? = some (x, v) ∧ PaV H v o := by
  have hi : i < pl.length := by rw [h.length]; exact (List.getElem?_eq_some_iff.mp e).1
  obtain ⟨p, hp, e1, e2⟩ := paired_get h (List.getElem?_eq_getElem hi)
  rw [e] at hp
  cases hp
  refine ⟨pl[i].2, ?_, ?_, e2⟩
  · have := List.getElem_mem hi
    rw [show pl[i] = (x, pl[i].2) by rw [← show pl[i].1 = x from e1]] at this
    exact this
  · rw [List.getElem?_eq_getElem hi]
    congr 1
    rw [← show pl[i].1 = x from e1]
theorem PaL.news {H : Hp} {q : Addr} {s f : Int} (hq : H q = some (.tup [.int s, .int f])) : ∀ (xs : List Int), PaL H (xs.map fun x => (x, V.ref q)) (xs.map fun x => (x, some (s, f)))
  | [] => .nil
  | _ :: xs => .cons ⟨rfl, q, rfl, hq⟩ (PaL.news hq xs)
theorem Ties.reverse {H : Hp} {rs : List V} {ts : List (Int × Int)} (h : Ties H rs ts) : Ties H rs.reverse ts.reverse := by
  unfold Ties at h
  induction h with
  | nil => exact .nil
  | cons a _ ih =>
    rw [List.reverse_cons, List.reverse_cons]
    exact Ties.append ih (.cons a .nil)
end FF
namespace FF
open PySem PySem.Spec PyProof.Rows L2
variable [LT]
/-! ### the heap while a free tie is sought -/
structure FfS (H : Hp) (n : Int) (ts : List (Int × Int)) (ws : List V) (k : Int) (tie : Nat) (d nb hg wt : Addr) (bl : List (Int × Addr)) (G : Hp) (pl : List (Int × V)) (fl : List (Int × Option (Int × Int))) (lv : Nat → Nat) (a : Nat) (gl : List (Int × Addr)) : Prop where
  ke : Kx (fun b => b = d) H G
  gd : G d = some (.dK (kvV pl))
  pa : PaL G pl fl
  bf : Bfs ts ws k tie fl lv a
  gn : G nb = some (.dK (kvF bl))
  by_ : Byf G ws bl
  wo : wt ∉ bl.map Prod.snd
  gh : G hg = some (.dK (kvF gl))
  gnd : (gl.map Prod.fst).Nodup
  grg : ∀ p ∈ gl, 0 ≤ p.1 ∧ p.1 < k
  gea : ∀ p ∈ gl, p.2 ≠ wt ∧ ∃ ds, Hg G p.2 ds ∧ Hung n ts (numsFrom p.1 0 ws) ds
  gw : G wt = some (.lst ((fl.map Prod.fst).map V.int))
section
variable {H : Hp} {n : Int} {ts : List (Int × Int)} {ws : List V} {k : Int} {tie : Nat} {d nb hg wt : Addr} {bl : List (Int × Addr)} {G G' : Hp} {pl pl' : List (Int × V)} {fl fl' : List (Int × Option (Int × Int))} {lv lv' : Nat → Nat} {a a' : Nat} {gl gl' : List (Int × Addr)}
theorem Hg.lst {G : Hp} {h : Addr} {ds : Nds} (g : Hg G h ds) : ∃ vs, G h = some (.lst vs) := ⟨_, g.ex.choose_spec.1⟩
theorem FfS.glen (h : FfS H n ts ws k tie d nb hg wt bl G pl fl lv a gl) : gl.length ≤ k.toNat := by
  have := nd_le h.gnd (m := upTo k) fun x hx => by
    obtain ⟨p, hp, rfl⟩ := List.mem_map.mp hx
    exact upTo_mem.mpr (h.grg p hp)
  rw [List.length_map, upTo_length] at this
  exact this
theorem FfS.flen (h : FfS H n ts ws k tie d nb hg wt bl G pl fl lv a gl) : fl.length ≤ ts.length := by
  have := nd_le h.bf.nd (m := upTo ts.length) fun x hx => upTo_mem.mpr (h.bf.rng x hx)
  rw [List.length_map, upTo_length] at this
  omega
theorem FfS.step (h : FfS H n ts ws k tie d nb hg wt bl G pl fl lv a gl) (nd : ∃ o, H d = some o) (hn : H nb = none) (hh : H hg = none) (hw : H wt = none) (nh : nb ≠ hg) {S : Addr → Prop} (kk : Kx S G G') (hS : ∀ b, S b → b = d ∨ b = hg ∨ b = wt)
    (gd : G' d = some (.dK (kvV pl'))) (pa : PaL G' pl' fl') (bf : Bfs ts ws k tie fl' lv' a') (gh : G' hg = some (.dK (kvF gl'))) (gnd : (gl'.map Prod.fst).Nodup) (grg : ∀ p ∈ gl', 0 ≤ p.1 ∧ p.1 < k) (gea : ∀ p ∈ gl', p ∈ gl ∨ (p.2 ≠ wt ∧ ∃ ds, Hg G' p.2 ds ∧ Hung n ts (numsFrom p.1 0 ws) ds)) (gw : G' wt = some (.lst ((fl'.map Prod.fst).map V.int))) : FfS H n ts ws k tie d nb hg wt bl G' pl' fl' lv' a' gl' := by
  obtain ⟨od, hod⟩ := nd
  have nbd : nb ≠ d := fun z => by rw [z, hod] at hn; cases hn
  have nbw : nb ≠ wt := fun z => by have := h.gn; rw [z, h.gw] at this; cases this
  have nS : ¬ S nb := fun z => by
    rcases hS nb z with z | z | z
    · exact nbd z
    · exact nh z
    · exact nbw z
  have lst_ok : ∀ q xs, G q = some (.lst xs) → q ≠ wt → ¬ S q := fun q xs e hq z => by
    rcases hS q z with z | z | z
    · rw [z, h.gd] at e; cases e
    · rw [z, h.gh] at e; cases e
    · exact hq z
  have tup_ok : ∀ q xs, G q = some (.tup xs) → ¬ S q := fun q xs e z => by
    rcases hS q z with z | z | z
    · rw [z, h.gd] at e; cases e
    · rw [z, h.gh] at e; cases e
    · rw [z, h.gw] at e; cases e
  refine ⟨⟨fun b o e nt q => ?_, fun b t => kk.tab b (h.ke.tab b t), fun b e => h.ke.dom b (kk.dom b e), fun b ps l q e => kk.lam b ps l (fun z => by
    have e2 := h.ke.lam b ps l q e
    rcases hS b z with z | z | z
    · rw [z, h.gd] at e2; cases e2
    · rw [z, h.gh] at e2; cases e2
    · rw [z, h.gw] at e2; cases e2) (h.ke.lam b ps l q e)⟩, gd, pa, bf, kk.at_ _ _ h.gn (fun _ z => nomatch z) nS, ⟨h.by_.nd, h.by_.na, fun p hp => ?_, h.by_.mem⟩, h.wo, gh, gnd, grg, fun p hp => ?_, gw⟩
  · refine kk.at_ b o (h.ke.at_ b o e nt q) nt fun z => ?_
    rcases hS b z with z | z | z
    · exact q z
    · rw [z, hh] at e; cases e
    · rw [z, hw] at e; cases e
  · exact kk.at_ _ _ (h.by_.each p hp) (fun _ z => nomatch z) (lst_ok _ _ (h.by_.each p hp) fun z => h.wo (List.mem_map.mpr ⟨p, hp, z⟩))
  · rcases gea p hp with hp | z
    · obtain ⟨h1, ds, h2, h3⟩ := h.gea p hp
      obtain ⟨vs, e⟩ := h2.lst
      exact ⟨h1, ds, h2.kx kk (lst_ok _ _ e h1) tup_ok, h3⟩
    · exact z
end
end FF
namespace FF
open PySem PySem.Spec PyProof.Rows L2
variable [LT]
/-! ### l.count(k) of ints and Nones -/
end FF
namespace FF
open PySem PySem.Spec PyProof.Rows L2
variable [LT]
/-! ### a ring in a forest is one sequence -/
theorem Way.split {ts : List (Int × Int)} : ∀ {p : List Int} {x z m : Int} {q : List Int}, Way ts x (p ++ m :: q) z → ∃ u v, Way ts x p u ∧ Leads ts m u v ∧ Way ts v q z
  | [], x, z, m, q, h => by
    obtain ⟨y, h1, h2⟩ := Way.inv h
    exact ⟨x, y, .nil x, h1, h2⟩
  | c :: p, x, z, m, q, h => by
    obtain ⟨y, h1, h2⟩ := Way.inv (show Way ts x (c :: (p ++ m :: q)) z from h)
    obtain ⟨u, v, a, b, d⟩ := Way.split h2
    exact ⟨u, v, .cons h1 a, b, d⟩
/-- m comes from a without m' -/
def Ere (ts : List (Int × Int)) (ms : List Int) (a m m' : Int) : Prop := foldR (fun x => x) (pick ts (but m' ms)) a = foldR (fun x => x) (pick ts (but m' ms)) (ts.getD m.toNat (0, 0)).1
theorem leads_end {ts : List (Int × Int)} {m u v : Int} (h : Leads ts m u v) : (ts.getD m.toNat (0, 0)).1 = u ∨ (ts.getD m.toNat (0, 0)).1 = v := by
  rcases h with h | h
  · exact .inl (by rw [h])
  · exact .inr (by rw [h])
section
variable {ts : List (Int × Int)} {ms : List Int} {a b : Int} {l : List Int}
theorem IsRing.ere (h : IsRing ts ms a b l) {p q : List Int} {m m' : Int} (e : l = p ++ m :: q) (hm : m' ∈ q) : Ere ts ms a m m' := by
  have hnd := h.nd
  subst e
  obtain ⟨u, v, w1, w2, _⟩ := Way.split h.way
  rw [List.nodup_append] at hnd
  obtain ⟨n1, n2, n3⟩ := hnd
  have n4 := (List.nodup_cons.mp n2).1
  have inb : ∀ x ∈ p, x ∈ but m' ms := fun x hx => mem_but.mpr ⟨h.mem x (List.mem_append_left _ hx), n3 x hx m' (List.mem_cons_of_mem _ hm)⟩
  have mb : m ∈ but m' ms := mem_but.mpr ⟨h.mem m (List.mem_append_right _ List.mem_cons_self), fun z => n4 (by rw [z]; exact hm)⟩
  have e1 := w1.joined inb
  have e2 := w2.foldR mb
  unfold Ere
  rcases leads_end w2 with z | z <;> rw [z]
  · exact e1
  · exact e1.trans e2
theorem IsRing.not_ere (h : IsRing ts ms a b l) (hf : ringlessF (fun x => x) (pick ts ms) = true) (hn : ms.Nodup) {p q : List Int} {m m' : Int} (e : l = p ++ m :: q) (hm : m' ∈ q) : ¬ Ere ts ms a m' m := fun z => by
  have hmi := (h.mem_iff hf hn m).mp (by rw [e]; exact List.mem_append_right _ List.mem_cons_self)
  have hnd := h.nd
  have hmem := h.mem
  have hway := h.way
  rw [e] at hnd hmem hway
  obtain ⟨u, v, _, _, w3⟩ := Way.split hway
  rw [List.nodup_append] at hnd
  obtain ⟨_, n2, _⟩ := hnd
  have n4 := (List.nodup_cons.mp n2).1
  have inb : ∀ x ∈ q, x ∈ but m ms := fun x hx => mem_but.mpr ⟨hmem x (List.mem_append_right _ (List.mem_cons_of_mem _ hx)), fun y => n4 (by rw [← y]; exact hx)⟩
  have e1 := w3.joined inb
  obtain ⟨q1, q2, u2, v2, eq, w4, w5, _⟩ := w3.cut hm
  have e2 := w4.joined fun x hx => inb x (by rw [eq]; exact List.mem_append_left _ hx)
  have e3 := w5.foldR (inb m' hm)
  refine hmi.2 ?_
  unfold Ere at z
  rcases leads_end w5 with y | y <;> rw [y] at z
  · exact z.trans (e2.symm.trans e1)
  · exact z.trans (e3.symm.trans (e2.symm.trans e1))
theorem split_at {l : List Int} {i j : Nat} (hi : i < l.length) (hj : j < l.length) (hij : i < j) : l = l.take i ++ l[i] :: l.drop (i + 1) ∧ l[j] ∈ l.drop (i + 1) := by
  refine ⟨?_, ?_⟩
  · rw [← List.drop_eq_getElem_cons hi, List.take_append_drop]
  · rw [List.mem_iff_getElem]
    refine ⟨j - (i + 1), by rw [List.length_drop]; omega, ?_⟩
    rw [List.getElem_drop]
    congr 1
    omega
theorem IsRing.up (h : IsRing ts ms a b l) : l.Pairwise (Ere ts ms a) := by
  rw [List.pairwise_iff_getElem]
  intro i j hi hj hij
  obtain ⟨e, hm⟩ := split_at hi hj hij
  exact h.ere e hm
theorem ring_same {l' : List Int} (h : IsRing ts ms a b l) (h' : IsRing ts ms a b l') (hf : ringlessF (fun x => x) (pick ts ms) = true) (hn : ms.Nodup) : l = l' := by
  refine List.Perm.eq_of_pairwise (le := Ere ts ms a) (fun m m' hm hm' e1 e2 => ?_) h.up h'.up ((List.perm_ext_iff_of_nodup h.nd h'.nd).mpr fun x => (h.mem_iff hf hn x).trans (h'.mem_iff hf hn x).symm)
  have hm'l : m' ∈ l := (h.mem_iff hf hn m').mpr ((h'.mem_iff hf hn m').mp hm')
  obtain ⟨i, hi, rfl⟩ := List.mem_iff_getElem.mp hm
  obtain ⟨j, hj, rfl⟩ := List.mem_iff_getElem.mp hm'l
  rcases Nat.lt_trichotomy i j with c | c | c
  · obtain ⟨e, hq⟩ := split_at hi hj c
    exact (h.not_ere hf hn e hq e2).elim
  · subst c
    rfl
  · obtain ⟨e, hq⟩ := split_at hj hi c
    exact (h.not_ere hf hn e hq e1).elim
end
/-! ### the search is one: which ties come, in which order -/
abbrev FlT := List (Int × Option (Int × Int))
open Classical in
noncomputable def ringL (ts : List (Int × Int)) (ws : List V) (s f : Int) : List Int := if h : ∃ l, IsRing ts (numsFrom f 0 ws) (tk ts s).1 (tk ts s).2 l then h.choose else []
theorem ringL_is {ts : List (Int × Int)} {ws : List V} {s f : Int} (hw : ws.length = ts.length) (hf : ringlessF (fun x => x) (layerOf ts ws f) = true) {l : List Int} (h : IsRing ts (numsFrom f 0 ws) (tk ts s).1 (tk ts s).2 l) : ringL ts ws s f = l := by
  have hex : ∃ l, IsRing ts (numsFrom f 0 ws) (tk ts s).1 (tk ts s).2 l := ⟨l, h⟩
  unfold ringL
  rw [dif_pos hex]
  refine ring_same hex.choose_spec h ?_ (nums_nd _ _ _)
  rw [show pick ts (numsFrom f 0 ws) = layerOf ts ws f from pick_nums f [] ts ws hw.symm]
  exact hf
noncomputable def grow (ts : List (Int × Int)) (ws : List V) (fl : FlT) (s f : Int) : FlT := fl ++ ((ringL ts ws s f).filter fun x => !decide (x ∈ fl.map Prod.fst)).map fun x => (x, some (s, f))
noncomputable def inF (ts : List (Int × Int)) (ws : List V) (s : Int) (fl : FlT) : Nat → FlT
  | 0 => fl
  | j + 1 => if ws[s.toNat]? = some (.int (j : Int)) then inF ts ws s fl j else grow ts ws (inF ts ws s fl j) s j
noncomputable def outF (ts : List (Int × Int)) (ws : List V) (k : Int) (tie : Nat) : Nat → FlT
  | 0 => [((tie : Int), none)]
  | a + 1 => match (outF ts ws k tie a)[a]? with
    | some p => inF ts ws p.1 (outF ts ws k tie a) k.toNat
    | none => outF ts ws k tie a
/-- the a-th is free in f -/
def Stp_ (ts : List (Int × Int)) (ws : List V) (k : Int) (tie : Nat) (a : Nat) (f : Int) : Prop := ∃ s o, (outF ts ws k tie a)[a]? = some (s, o) ∧ (0 ≤ f ∧ f < k) ∧ ws[s.toNat]? ≠ some (.int f) ∧ joinB ts ws (s, f) = false
/-- what the search has come to: the first that is free -/
structure Fst (ts : List (Int × Int)) (ws : List V) (k : Int) (tie : Nat) (a : Nat) (x f : Int) (fl : FlT) : Prop where
  fl_ : fl = inF ts ws x (outF ts ws k tie a) f.toNat
  key : ∃ o, (outF ts ws k tie a)[a]? = some (x, o)
  stop : Stp_ ts ws k tie a f
  ahead : ∀ a' f', (a' < a ∨ (a' = a ∧ f' < f)) → ¬ Stp_ ts ws k tie a' f'
theorem Fst.same {ts : List (Int × Int)} {ws : List V} {k : Int} {tie a a' : Nat} {x x' f f' : Int} {fl fl' : FlT} (h : Fst ts ws k tie a x f fl) (h' : Fst ts ws k tie a' x' f' fl') : a = a' ∧ x = x' ∧ f = f' ∧ fl = fl' := by
  have ea : a = a' := by
    rcases Nat.lt_trichotomy a a' with c | c | c
    · exact (h'.ahead a f (.inl c) h.stop).elim
    · exact c
    · exact (h.ahead a' f' (.inl c) h'.stop).elim
  subst ea
  have ef : f = f' := by
    by_cases c : f = f'
    · exact c
    · by_cases c2 : f < f'
      · exact (h'.ahead a f (.inr ⟨rfl, c2⟩) h.stop).elim
      · exact (h.ahead a f' (.inr ⟨rfl, by omega⟩) h'.stop).elim
  subst ef
  obtain ⟨o, e⟩ := h.key
  obtain ⟨o', e'⟩ := h'.key
  rw [e] at e'
  have ex : x = x' := by cases e'; rfl
  subst ex
  exact ⟨rfl, rfl, rfl, h.fl_.trans h'.fl_.symm⟩
/-- the pushes that lead to x -/
inductive Pth (fl : FlT) : Int → List (Int × Int) → Prop where
  | root {x : Int} (h : (x, none) ∈ fl) : Pth fl x []
  | step {x s f : Int} {es : List (Int × Int)} (h : (x, some (s, f)) ∈ fl) (p : Pth fl s es) : Pth fl x (es ++ [(s, f)])
theorem fl_one {fl : FlT} (nd : (fl.map Prod.fst).Nodup) {x : Int} {o o' : Option (Int × Int)} (h : (x, o) ∈ fl) (h' : (x, o') ∈ fl) : o = o' := by
  obtain ⟨i, hi⟩ := List.getElem?_of_mem h
  obtain ⟨j, hj⟩ := List.getElem?_of_mem h'
  have ei : (fl.map Prod.fst)[i]? = some x := by rw [List.getElem?_map, hi]; rfl
  have ej : (fl.map Prod.fst)[j]? = some x := by rw [List.getElem?_map, hj]; rfl
  obtain ⟨li, e1⟩ := List.getElem?_eq_some_iff.mp ei
  obtain ⟨lj, e2⟩ := List.getElem?_eq_some_iff.mp ej
  have := (List.getElem_inj nd).mp (e1.trans e2.symm)
  subst this
  rw [hi] at hj
  cases hj
  rfl
theorem Pth.same {fl : FlT} (nd : (fl.map Prod.fst).Nodup) {x : Int} {es es' : List (Int × Int)} (h : Pth fl x es) (h' : Pth fl x es') : es = es' := by
  induction h generalizing es' with
  | root h =>
    cases h' with
    | root _ => rfl
    | step h2 _ => cases fl_one nd h h2
  | step h p ih =>
    cases h' with
    | root h2 => cases fl_one nd h h2
    | step h2 p2 =>
      cases fl_one nd h h2
      rw [ih p2]
theorem Bfs.lv_same {ts : List (Int × Int)} {ws : List V} {k : Int} {tie : Nat} {fl : FlT} {lv lv' : Nat → Nat} {a a' : Nat} (h : Bfs ts ws k tie fl lv a) (h' : Bfs ts ws k tie fl lv' a') : ∀ i, i < fl.length → lv i = lv' i := by
  intro i
  induction i using Nat.strongRecOn with
  | _ i ih =>
    intro hi
    obtain ⟨x, o, hx⟩ : ∃ x o, fl[i]? = some (x, o) := ⟨fl[i].1, fl[i].2, List.getElem?_eq_getElem hi⟩
    cases o with
    | none => rw [h.root i x hx, h.lv0, h'.lv0]
    | some sf =>
      obtain ⟨j, hj, ⟨o1, e1⟩, l1, _⟩ := h.par i x sf.1 sf.2 hx
      obtain ⟨j', hj', ⟨o2, e2⟩, l2, _⟩ := h'.par i x sf.1 sf.2 hx
      have := h.one e1 e2
      subst this
      rw [l1, l2, ih j hj (by omega)]
end FF
namespace FF
open PySem PySem.Spec PyProof.Rows L2
variable [LT]
/-! ### what push_tie tells -/
def Laid_ (ts : List (Int × Int)) (k : Int) (ws : List V) (tie : Nat) (e : Int × Int) (es : List (Int × Int)) (ls : List Int) : Prop :=
  PRow ts ws k (e :: es) ∧ e.1 = (tie : Int) ∧ ls.length = ts.length ∧ (∀ y ∈ ls, 0 ≤ y ∧ y ≤ 121) ∧ LevP ts k ws tie ((e :: es).length : Int) ls ∧
  ∃ (fl : FlT) (lv : Nat → Nat) (a : Nat) (x g : Int) (mid : List (Int × Int)), Fst ts ws k tie a x g fl ∧ Bfs ts ws k tie fl lv a ∧ e :: es = mid ++ [(x, g)] ∧ Pth fl x mid ∧ (∀ (i : Nat) y o, fl[i]? = some (y, o) → hat ls y = lv i) ∧ ∀ y, 0 ≤ y → y < (ts.length : Int) → y ∉ fl.map Prod.fst → hat ls y = ((e :: es).length : Int)
def Full_ (ts : List (Int × Int)) (n k : Int) (ws : List V) (tie : Nat) (ls R : List Int) : Prop := Lot n ls ∧ EndsOf ts R ls ∧ Closed ts ws k R ∧ (tie : Int) ∈ R ∧ ∀ t, t ∈ R ↔ Rch ts ws k (tie : Int) t
def Told (ts : List (Int × Int)) (n k : Int) (ws : List V) (tie : Nat) (H : Hp) (x : Addr) : Prop :=
  (∃ (r c : Addr) (xs : List V) (e : Int × Int) (es : List (Int × Int)) (ls : List Int), H x = some (.tup [.str "laid", .ref r, .ref c]) ∧ H r = some (.tup xs) ∧ Ties H xs (e :: es) ∧ H c = some (.tup (ls.map V.int)) ∧ Laid_ ts k ws tie e es ls) ∨
  ∃ (c : Addr) (ls R : List Int), H x = some (.tup [.str "full", .ref c]) ∧ H c = some (.tup (ls.map V.int)) ∧ Full_ ts n k ws tie ls R
theorem Told.mono {ts : List (Int × Int)} {n k : Int} {ws : List V} {tie : Nat} {H H' : Hp} {x : Addr} (h : Told ts n k ws tie H x) (kk : ∀ q xs, H q = some (.tup xs) → H' q = some (.tup xs)) : Told ts n k ws tie H' x := by
  rcases h with ⟨r, c, xs, e, es, ls, h1, h2, h3, h4, h5⟩ | ⟨c, ls, R, h1, h2, h3⟩
  · exact .inl ⟨r, c, xs, e, es, ls, kk _ _ h1, kk _ _ h2, h3.mono kk, kk _ _ h4, h5⟩
  · exact .inr ⟨c, ls, R, kk _ _ h1, kk _ _ h2, h3⟩
theorem Laid_.same {ts : List (Int × Int)} {k : Int} {ws : List V} {tie : Nat} {e e' : Int × Int} {es es' : List (Int × Int)} {ls ls' : List Int} (h : Laid_ ts k ws tie e es ls) (h' : Laid_ ts k ws tie e' es' ls') : e :: es = e' :: es' ∧ ls = ls' := by
  obtain ⟨_, _, l1, _, _, fl, lv, a, x, g, mid, hF, hB, he, hp, hl, ho⟩ := h
  obtain ⟨_, _, l2, _, _, fl', lv', a', x', g', mid', hF', hB', he', hp', hl', ho'⟩ := h'
  obtain ⟨rfl, rfl, rfl, rfl⟩ := hF.same hF'
  have em := hp.same hB.nd hp'
  have ee : e :: es = e' :: es' := by rw [he, he', em]
  refine ⟨ee, ext_hat (l1.trans l2.symm) fun y y0 y1 => ?_⟩
  by_cases c : y ∈ fl.map Prod.fst
  · obtain ⟨p, hp, rfl⟩ := List.mem_map.mp c
    obtain ⟨i, hi⟩ := List.getElem?_of_mem hp
    rw [hl i p.1 p.2 hi, hl' i p.1 p.2 hi, hB.lv_same hB' i (List.getElem?_eq_some_iff.mp hi).1]
  · rw [ho y y0 (by omega) c, ho' y y0 (by omega) c, ee]
theorem sorted_one : ∀ {as bs : List Int}, as.Pairwise (· < ·) → bs.Pairwise (· < ·) → (∀ x, x ∈ as ↔ x ∈ bs) → as = bs := fun {as bs} ha hb h =>
  List.Perm.eq_of_pairwise (fun a b _ _ h1 h2 => by omega) ha hb ((List.perm_ext_iff_of_nodup (ha.imp fun z => by omega) (hb.imp fun z => by omega)).mpr h)
theorem Full_.same {ts : List (Int × Int)} {n k : Int} {ws : List V} {tie : Nat} {ls ls' R R' : List Int} (h : Full_ ts n k ws tie ls R) (h' : Full_ ts n k ws tie ls' R') : ls = ls' := by
  obtain ⟨h1, h2, _, _, h5⟩ := h
  obtain ⟨g1, g2, _, _, g5⟩ := h'
  refine sorted_one h1.up g1.up fun x => (h2.mem x).trans (Iff.trans ?_ (g2.mem x).symm)
  constructor
  · rintro ⟨t, ht, z⟩
    exact ⟨t, (g5 t).mpr ((h5 t).mp ht), z⟩
  · rintro ⟨t, ht, z⟩
    exact ⟨t, (h5 t).mpr ((g5 t).mp ht), z⟩
theorem Laid_.not_full {ts : List (Int × Int)} {n k : Int} {ws : List V} {tie : Nat} {e : Int × Int} {es : List (Int × Int)} {ls ls' R : List Int} (hw : ws.length = ts.length) (h : Laid_ ts k ws tie e es ls) (h' : Full_ ts n k ws tie ls' R) : False := h'.2.2.1.no_row hw rfl h.1 (by rw [h.2.1]; exact h'.2.2.2.1)
end FF
namespace FF
open PySem PySem.Spec PyProof.Rows L2
variable [LT]
/-! ### the data of what push_tie tells -/
def dE (es : List (Int × Int)) : PyData := .tuple (es.map fun e => .tuple [.int e.1, .int e.2])
theorem dE_sh (es : List (Int × Int)) : Sh 2 (dE es) := Sh.tup fun d hd => by
  obtain ⟨e, _, rfl⟩ := List.mem_map.mp hd
  refine (Sh.tup (k := 0) fun d hd => ?_)
  rcases List.mem_cons.mp hd with rfl | hd
  · exact Sh.int
  · rw [List.mem_singleton.mp hd]
    exact Sh.int
theorem Ties.dpA {K : PySem.W.Frag} {H : Hp} {xs : List V} {es : List (Int × Int)} (h : Ties H xs es) : DpAll K H xs (es.map fun e => .tuple [.int e.1, .int e.2]) := by
  unfold Ties at h
  induction h with
  | nil => exact .nil
  | cons a _ ih =>
    obtain ⟨q, rfl, hq⟩ := a
    exact .cons (.tup (sqT_of hq) (.cons (.int _) (.cons (.int _) .nil))) ih
theorem ints_sh (ls : List Int) : Sh 1 (.tuple (ls.map PyData.int)) := Sh.tup fun d hd => by
  obtain ⟨e, _, rfl⟩ := List.mem_map.mp hd
  exact Sh.int
theorem Sh.str {x : Str} (h : (PyData.str x).canLay0 = true := by decide +kernel) : Sh 0 (.str x) := ⟨h, Nat.le_refl _⟩
theorem Told.data {K : PySem.W.Frag} {ts : List (Int × Int)} {n k : Int} {ws : List V} {tie : Nat} {H : Hp} {x y : Addr} (hw : ws.length = ts.length) (h : Told ts n k ws tie H x) (h' : Told ts n k ws tie H y) : ∃ d, Dp K H (.ref x) d ∧ Dp K H (.ref y) d ∧ SeqAt.shaped d = true := by
  rcases h with ⟨r, c, xs, e, es, ls, h1, h2, h3, h4, h5⟩ | ⟨c, ls, R, h1, h2, h3⟩
  · rcases h' with ⟨r', c', xs', e', es', ls', g1, g2, g3, g4, g5⟩ | ⟨c', ls', R', g1, g2, g3⟩
    · obtain ⟨e1, e2⟩ := h5.same g5
      subst e2
      rw [← e1] at g3
      refine ⟨.tuple [.str "laid", dE (e :: es), .tuple (ls.map PyData.int)], .tup (sqT_of h1) (.cons (.str _) (.cons (.tup (sqT_of h2) h3.dpA) (.cons (.tup (sqT_of h4) (dp_ints ls)) .nil))), .tup (sqT_of g1) (.cons (.str _) (.cons (.tup (sqT_of g2) g3.dpA) (.cons (.tup (sqT_of g4) (dp_ints ls)) .nil))), (Sh.tup (k := 2) fun d hd => ?_).shaped⟩
      rcases List.mem_cons.mp hd with rfl | hd
      · exact Sh.up .str (Nat.zero_le _)
      rcases List.mem_cons.mp hd with rfl | hd
      · exact dE_sh _
      · rw [List.mem_singleton.mp hd]
        exact (ints_sh ls).up (by decide)
    · exact (h5.not_full hw g3).elim
  · rcases h' with ⟨r', c', xs', e', es', ls', g1, g2, g3, g4, g5⟩ | ⟨c', ls', R', g1, g2, g3⟩
    · exact (g5.not_full hw h3).elim
    · have e2 := h3.same g3
      subst e2
      refine ⟨.tuple [.str "full", .tuple (ls.map PyData.int)], .tup (sqT_of h1) (.cons (.str _) (.cons (.tup (sqT_of h2) (dp_ints ls)) .nil)), .tup (sqT_of g1) (.cons (.str _) (.cons (.tup (sqT_of g2) (dp_ints ls)) .nil)), (Sh.tup (k := 2) fun d hd => ?_).shaped⟩
      rcases List.mem_cons.mp hd with rfl | hd
      · exact Sh.up .str (Nat.zero_le _)
      · rw [List.mem_singleton.mp hd]
        exact (ints_sh ls).up (by decide)
end FF
namespace FF
open PySem PySem.Spec PyProof.Rows L2
variable [LT]
/-! ### strips: each tie brings a point that its forest has not touched -/
theorem layerOf_app {ts us : List (Int × Int)} {ws vs : List V} (h : ts.length = ws.length) (f : Int) : layerOf (ts ++ us) (ws ++ vs) f = layerOf ts ws f ++ layerOf us vs f := by
  unfold layerOf
  rw [List.zip_append h, List.filter_append, List.map_append]
theorem LayK.turn {ts : List (Int × Int)} {k : Int} {ws : List V} (h : LayK ts k ws) (r : Nat) : LayK (ts.drop r ++ ts.take r) k (ws.drop r ++ ws.take r) := by
  have hl := h.len
  refine ⟨by rw [List.length_append, List.length_append, List.length_drop, List.length_drop, List.length_take, List.length_take, hl], fun x hx => ?_, fun f => ?_⟩
  · rcases List.mem_append.mp hx with hx | hx
    · exact h.each x (List.mem_of_mem_drop hx)
    · exact h.each x (List.mem_of_mem_take hx)
  · have e : layerOf ts ws f = layerOf (ts.take r) (ws.take r) f ++ layerOf (ts.drop r) (ws.drop r) f := by
      rw [← layerOf_app (by rw [List.length_take, List.length_take, hl]), List.take_append_drop, List.take_append_drop]
    rw [layerOf_app (by rw [List.length_drop, List.length_drop, hl]), ringlessF_perm List.perm_append_comm, ← e]
    exact h.tree f
end FF
namespace FF
open PySem PySem.Spec PyProof.Rows L2
variable [LT]
/-! ### laying tie after tie -/
theorem row_laid {ts : List (Int × Int)} {ws : List V} {k : Int} : ∀ {es : List (Int × Int)} {e : Int × Int} {r : List (Int × Int)}, es = e :: r → PRow ts ws k es → ∀ x ∈ r, ws[x.1.toNat]? ≠ some .non
  | [], _, _, h0, _ => nomatch h0
  | [e], _, _, h0, _ => by
    cases h0
    exact fun _ z => nomatch z
  | e :: e' :: r, _, _, h0, hp => by
    cases h0
    intro x hx
    rcases List.mem_cons.mp hx with rfl | hx
    · have h := (nums_iff.mp (pushB_parts.mp hp.push).2.1.1).2
      rw [h]
      exact fun z => nomatch z
    · exact row_laid rfl hp.tail x hx
theorem pushL_out : ∀ (es : List (Int × Int)) {ws : List V} {i : Nat}, (∀ e ∈ es, e.1.toNat ≠ i) → (pushL ws es)[i]? = ws[i]?
  | [], _, _, _ => rfl
  | e :: es, ws, i, h => by
    show (pushL (ws.set e.1.toNat (.int e.2)) es)[i]? = _
    rw [pushL_out es fun x hx => h x (List.mem_cons_of_mem _ hx), List.getElem?_set_ne (h e List.mem_cons_self)]
theorem pushL_some : ∀ (es : List (Int × Int)) {ws : List V} {i : Nat}, ws[i]? ≠ some .non → (pushL ws es)[i]? ≠ some .non
  | [], _, _, h => h
  | e :: es, ws, i, h => by
    show (pushL (ws.set e.1.toNat (.int e.2)) es)[i]? ≠ _
    refine pushL_some es ?_
    by_cases c : e.1.toNat = i
    · subst c
      rw [List.getElem?_set_self']
      cases ws[e.1.toNat]? with
      | none => exact fun z => nomatch z
      | some _ => exact fun z => nomatch z
    · rw [List.getElem?_set_ne c]
      exact h
theorem pushL_mem : ∀ (es : List (Int × Int)) {ws : List V} {e : Int × Int}, e ∈ es → (pushL ws es)[e.1.toNat]? ≠ some .non
  | d :: es, ws, e, he => by
    show (pushL (ws.set d.1.toNat (.int d.2)) es)[e.1.toNat]? ≠ _
    rcases List.mem_cons.mp he with rfl | he
    · refine pushL_some es ?_
      rw [List.getElem?_set_self']
      cases ws[e.1.toNat]? with
      | none => exact fun z => nomatch z
      | some _ => exact fun z => nomatch z
    · exact pushL_mem es he
theorem Laid_.step {ts : List (Int × Int)} {k : Int} {ws : List V} {tie : Nat} {e : Int × Int} {es : List (Int × Int)} {ls : List Int} (hL : LayK ts k ws) (h0 : ws[tie]? = some .non) (h : Laid_ ts k ws tie e es ls) :
    LayK ts k (pushL ws (e :: es)) ∧ ∀ i : Nat, (pushL ws (e :: es))[i]? = some .non ↔ ws[i]? = some .non ∧ i ≠ tie := by
  obtain ⟨h1, h2, h3, h4, h5, _⟩ := h
  refine ⟨(h1.lays hL h2 h5 h0).1, fun i => ⟨fun z => ⟨?_, fun c => ?_⟩, fun ⟨z, c⟩ => ?_⟩⟩
  · by_cases c : ws[i]? = some .non
    · exact c
    · exact (pushL_some _ c z).elim
  · have := pushL_mem (e :: es) (ws := ws) (e := e) List.mem_cons_self
    rw [show e.1.toNat = i by omega] at this
    exact this z
  · rw [pushL_out, z]
    intro x hx
    rcases List.mem_cons.mp hx with rfl | hx
    · omega
    · intro q
      have := row_laid rfl h1 x hx
      rw [q] at this
      exact this z
end FF
namespace FF
open PySem PySem.Spec PyProof.Rows L2
variable [LT]
/-! ### sorted(set), any number of members -/
section
variable {P : Program} {w : World} {A : Around} {E : Value → Shared → Prop} {s : Shared}
theorem sorted_setB {a : Addr} {S : Int → Bool} {n : Nat} {Q : Value → Shared → Prop} (R : SetR w s.heap a S n) (hh : A.handled = none) (hn0 : n ≤ 1000)
    (hQ : ∀ s' p (c : Nat) (out : Array Value) (ns : List Int), (∀ b o, s.heap.get? b = some o → s'.heap.get? b = some o) → s'.gens = s.gens → s'.os = s.os → s.heap.objs.size ≤ p →
      s'.heap.get? p = some (seqObj "list" out c) → IntsAre out.toList ns → ns.Pairwise (· < ·) → (∀ k, k ∈ ns ↔ S k = true) → ns.length = n → Q (.ref p) s') :
    wpAny (model P w) A (call (.builtin "sorted") [.ref a]) Q E s := by
  obtain ⟨o, es, ep, t, ho, hx, hd, g, nd, hm, hb, hf, hn, hr, hl⟩ := R
  refine Calls.call_function_entry kind_sorted plain_sorted entry_sorted (args_sorted1 _) ?_
  unfold Builtin.«sorted»
  refine wpAny_bind (m := checkCount "sorted" 1 1 _) (wpAny_pure ?_)
  refine wpAny_bind (collect_set (A := A.in1) hh ⟨o, ho, hx.1, hd⟩ hf hb hr hl fun s1 vs kk hz gg oo pm => ?_)
  have vl : vs.length = n := by rw [pm.length_eq, List.length_map, Array.length_toList]; exact hn
  have hI : IntsAre vs (vs.map Builtin.Re.reRawOf) := ints_of vs fun v hv => by
    obtain ⟨e, he, q⟩ := List.mem_map.mp (pm.mem_iff.mp hv)
    obtain ⟨k, tk, e1, _⟩ := g e he
    exact ⟨k, tk, by rw [← q]; exact e1⟩
  have pk : (vs.map Builtin.Re.reRawOf).Perm (es.toList.map keyOf) := by
    have := pm.map Builtin.Re.reRawOf
    rwa [List.map_map] at this
  have big : vs.length ≤ sizeLine := by rw [vl, sizeLine_eq]; omega
  refine wpAny_bind (wpAny_newList ?_ big)
  have at1 : (s1.heap.push (seqObj "list" vs.toArray 0)).get? s1.heap.objs.size = some (seqObj "list" vs.toArray 0) := Heap.get?_push_size _ rfl
  refine wpAny_bind (wpAny_holding (wpAny_call_entry slot_list_sort ⟨_, at1, rfl⟩ entry_list_sort (SrtO.list_sort_ord SrtO.swo_int at1 big (fun h2 => SrtO.ints_sortable hI h2) fun out q1 q2 => ⟨_, rfl, ?_⟩) (args_list_sort _)))
  obtain ⟨k1, k2, k3⟩ := SrtO.ints_out hI q1 q2
  obtain ⟨c, hc⟩ := sortedHeap_at (vs := vs) (out := out.toArray) at1
  have pn : (out.map SrtO.iv).Perm (es.toList.map keyOf) := k2.trans pk
  refine wpAny_pure ⟨_, rfl, hQ _ s1.heap.objs.size c out.toArray _ (fun b u e => ?_) gg oo hz hc k1 (lt_of_le_nodup _ k3 (pn.nodup_iff.mpr nd)) (fun k => by rw [pn.mem_iff, ← hm k]) ?_⟩
  · have q := kk b u e
    have hlt := Heap.lt_size q
    show (sortedHeap (s1.heap.push (seqObj "list" vs.toArray 0)) s1.heap.objs.size vs out.toArray).get? b = some u
    rw [sortedHeap_old (Nat.ne_of_lt hlt) (by rw [size_push']; exact Nat.lt_succ_of_lt hlt)]
    exact Heap.get?_push_of_some _ q
  · rw [pn.length_eq, List.length_map, Array.length_toList]; exact hn
end
def rSortedSetB (w : World) : List V → Hp → VK → Prop := fun vs H Q => ∃ (a : Addr) (S : Int → Bool) (n : Nat), vs = [V.ref a] ∧ H a = some (SetO w a S n) ∧ n ≤ 1000 ∧
  ∀ (ns : List Int) (p : Addr), ns.Pairwise (· < ·) → (∀ k : Int, k ∈ ns ↔ S k = true) → ns.length = n → H p = none → Q (.ref p) (upd H p (.lst (ns.map V.int)))
section
variable {X : Cx}
theorem cr_sortedSetB (hc : X.calm = true) : CallR X (.builtin "sorted") (rSortedSetB X.w) := by
  intro pins s σ H vs us Q I r h
  obtain ⟨a, S, n, rfl, ha, hn0, q⟩ := h
  rw [Vals.ref1 r]
  refine sorted_setB (setO_get I ha) (I.ok.hd hc) hn0 fun s' p c out ns k g o hp hg hi hs hm hl => ?_
  have hlen : (ns.map V.int).length ≤ sizeLine := by rw [List.length_map, hl, sizeLine_eq]; omega
  have hn : H p = none := I.hok.fresh hp
  have J : Inv X pins σ (upd H p (.lst (ns.map V.int))) { s with heap := s'.heap, gens := s'.gens, drawn := s'.drawn, toks := s'.toks } :=
    I.call (ch := []) (Un.laid k hp hn) (I.hok.laid k hp ⟨hlen, out.toList, c, vals_of_ints hi, hg⟩) (by rw [g]; exact I.bare) (fun _ z => nomatch z)
  have e : { s with heap := s'.heap, gens := s'.gens, drawn := s'.drawn, toks := s'.toks } = s' := by
    cases s'
    cases s
    cases o
    rfl
  rw [← e]
  exact ⟨.ref p, _, J, rfl, q ns p hs hm hl hn⟩
end
end FF
namespace FF
open PySem PySem.Spec PyProof.Rows L2
variable [LT]
/-! ### every second one of a list -/
section
variable {X : Cx}
end
end FF
namespace FF
open PySem PySem.Spec PyProof.Rows L2
variable [LT]
/-! ### numbers in the order of their first places -/
/-! ### the parting around lots -/
/-! ### tight lots -/
structure TightL (ts : List (Int × Int)) (n k : Int) (ws : List V) (ls : List Int) : Prop where
  lot : Lot n ls
  tight : ∀ f, 0 ≤ f → f < k → inside ls (layerOf ts ws f) + 1 = ls.length
theorem nub_all {l : List Int} (h : (nub l).length = 1) {a b : Int} (ha : a ∈ l) (hb : b ∈ l) : a = b := by
  have ha := (mem_nub l a).mpr ha
  have hb := (mem_nub l b).mpr hb
  match nub l, h, ha, hb with
  | [c], _, ha, hb => rw [List.mem_singleton.mp ha, List.mem_singleton.mp hb]
theorem tight_joined {n : Int} {ls : List Int} {L : List (Int × Int)} (h : ringlessF (fun x => x) L = true) (hl : Lot n ls) (ht : inside ls L + 1 = ls.length) {x y : Int} (hx : x ∈ ls) (hy : y ∈ ls) :
    foldR (fun x => x) (L.filter fun t => decide (t.1 ∈ ls) && decide (t.2 ∈ ls)) x = foldR (fun x => x) (L.filter fun t => decide (t.1 ∈ ls) && decide (t.2 ∈ ls)) y := by
  have c := lot_count (ls := ls) (ringlessF_filter (fun t => decide (t.1 ∈ ls) && decide (t.2 ∈ ls)) h) fun t ht => by
    have := (List.mem_filter.mp ht).2
    rw [Bool.and_eq_true, decide_eq_true_eq, decide_eq_true_eq] at this
    exact this
  rw [List.map_id', nub_of_nd hl.nd] at c
  have ht : (L.filter fun t => decide (t.1 ∈ ls) && decide (t.2 ∈ ls)).length + 1 = ls.length := ht
  exact nub_all (by omega) (List.mem_map.mpr ⟨x, hx, rfl⟩) (List.mem_map.mpr ⟨y, hy, rfl⟩)
/-! ### a lot stays tight -/
theorem laidT_sub : ∀ {ts : List (Int × Int)} {ws ws' : List V}, ws'.length = ws.length → (∀ i : Nat, ws'[i]? = some .non → ws[i]? = some .non) → (laidT ts ws).Sublist (laidT ts ws')
  | [], _, _, _, _ => by
    unfold laidT
    rw [List.zip_nil_left]
    exact List.nil_sublist _
  | t :: ts, [], _, _, _ => by
    unfold laidT
    rw [List.zip_nil_right]
    exact List.nil_sublist _
  | t :: ts, x :: ws, [], hl, _ => by cases hl
  | t :: ts, x :: ws, y :: ws', hl, h => by
    rw [laidT_cons, laidT_cons]
    refine List.Sublist.append ?_ (laidT_sub (Nat.succ.inj hl) fun i => h (i + 1))
    by_cases e : y = V.non
    · have h0 := h 0
      have : x = V.non := Option.some.inj (h0 (by rw [e]; rfl))
      rw [if_pos this]
      exact List.nil_sublist _
    · rw [if_neg e]
      split
      · exact List.nil_sublist _
      · exact .refl _
theorem TightL.stay {ts : List (Int × Int)} {n k : Int} {ws ws' : List V} {ls : List Int} (h : TightL ts n k ws ls) (hk : 0 ≤ k) (hL : LayK ts k ws) (hL' : LayK ts k ws') (hs : ∀ i : Nat, ws'[i]? = some .non → ws[i]? = some .non) : TightL ts n k ws' ls := by
  refine ⟨h.lot, fun f f0 f1 => ?_⟩
  have h1 := (tight_iff hL hk h.lot.nd h.lot.ne).mpr fun f f0 f1 => by have := h.tight f f0 f1; omega
  have hsub : inside ls (laidT ts ws) ≤ inside ls (laidT ts ws') := ((laidT_sub (hL'.len.trans hL.len.symm) hs).filter _).length_le
  have hmost := (sum_most (s := (ls.length : Int) - 1) (g := fun f => (inside ls (layerOf ts ws' f) : Int)) (l := upTo k) fun f _ => by
    have := inside_forest (hL'.tree f) h.lot.nd h.lot.ne
    show (inside ls (layerOf ts ws' f) : Int) ≤ _
    omega).1
  rw [← inside_laid ls hL'.len hL'.each, upTo_length, show ((k.toNat : Nat) : Int) = k by omega] at hmost
  have := (tight_iff hL' hk h.lot.nd h.lot.ne).mp (by omega) f f0 f1
  omega
theorem Full_.tight {ts : List (Int × Int)} {n k : Int} {ws : List V} {tie : Nat} {ls R : List Int} (hL : LayK ts k ws) (h : Full_ ts n k ws tie ls R) : TightL ts n k ws ls ∧ (tk ts (tie : Int)).1 ∈ ls ∧ (tk ts (tie : Int)).2 ∈ ls := by
  obtain ⟨h1, h2, h3, h4, _⟩ := h
  refine ⟨⟨h1, fun f f0 f1 => h3.tree hL.len h2 (fun z => by rw [z] at h4; cases h4) hL.tree f0 f1⟩, (h2.mem _).mpr ⟨_, h4, .inl rfl⟩, (h2.mem _).mpr ⟨_, h4, .inr rfl⟩⟩
end FF
namespace FF
open PySem PySem.Spec PyProof.Rows L2
variable [LT]
/-! ### len of a dict, and layings that grow with lots noted -/
end FF
namespace FF
open PySem PySem.Spec PyProof.Rows L2
variable [LT]
/-! ### no laying lays more than the bound of a parting -/
end FF
namespace FF
open PySem PySem.Spec PyProof.Rows L2
variable [LT]
/-! ### min of a list -/
/-! ### all partings -/
end FF
namespace FF
open PySem PySem.Spec PyProof.Rows L2
variable [LT]
/-! ### as few forests as do -/
end FF
namespace FF
open PySem PySem.Spec PyProof.Rows L2
variable [LT]
/-! ### an empty tuple times an int -/
section
variable {X : Cx}
end
/-! ### whether no lot is full, by all lots -/
def canF (n : Nat) (ts : List (Int × Int)) (k : Int) : Bool := ((lotsF n).filter fun l => !l.isEmpty).all fun l => decide ((inside l ts : Int) ≤ k * ((l.length : Int) - 1))
theorem canF_iff {n : Nat} {ts : List (Int × Int)} {k : Int} : canF n ts k = true ↔ ∀ ls, Lot (n : Int) ls → (inside ls ts : Int) ≤ k * ((ls.length : Int) - 1) := by
  unfold canF
  rw [List.all_eq_true]
  constructor
  · intro h ls hL
    refine of_decide_eq_true (h ls (List.mem_filter.mpr ⟨lotsF_all n hL.up hL.ok, ?_⟩))
    cases ls with
    | nil => exact absurd rfl hL.ne
    | cons _ _ => rfl
  · intro h l hl
    obtain ⟨h1, h2⟩ := List.mem_filter.mp hl
    obtain ⟨o1, o2, _⟩ := lotsF_ok n l h1
    exact decide_eq_true (h l ⟨fun z => (by rw [z] at h2; cases h2), o1, o2⟩)
end FF
namespace FF
open PySem PySem.Spec PyProof.Rows L2
variable [LT]
/-! ### webs of which the fewest forests are known -/
end FF
namespace FF
open PySem PySem.Spec PyProof.Rows L2
variable [LT]
/-! ### [.. for .. in .. for .. in ..] -/
section
variable {X : Cx}
def InL2 (g1 : TG) (tt1 : TT) (te : TE) (vs1 : List Nat) (σ2 : L2.St) (D : Addr) (Nx : Hp → Prop) (J1 : It) (H4 : Hp) : Prop := ∃ W1 : Nat → Nat → Hp → Prop, (∃ m, W1 0 m H4) ∧ ∀ j k H, W1 j k H →
      (J1.stop j H ∧ Nx H) ∨ (J1.go j H ∧ ∃ Nx1 : Hp → Prop, (∀ H', Nx1 H' → ∃ k', k' < k ∧ W1 (j + 1) k' H') ∧ ∀ x H', J1.yld j H x H' → g1 x (wipe σ2 vs1) H' fun σ3 H5 => wipe σ3 vs1 = wipe σ2 vs1 ∧ tt1 σ3 H5 fun b H6 =>
        if b = true then te σ3 H6 fun y H7 => ∃ acc, H7 D = some (.lst acc) ∧ acc.length < sizeLine ∧ Nx1 (upd H7 D (.lst (acc ++ [y]))) else Nx1 H6)
theorem lc2_out {J : It} {n : Nat} {Gd : Hp → Prop} {Y : Nat → Hp → V → Hp → Prop} (wk : Walk J n Gd Y) {g g1 : TG} {tt tt1 : TT} {wi1 : TI} {te : TE} {vs vs1 : List Nat} {σ : L2.St} {H0 : Hp} {D : Addr} {Qd : Hp → Prop} (Pv : Nat → Hp → Prop) (h0 : Pv 0 H0) (hG : ∀ i H, i ≤ n → Pv i H → Gd H)
    (hs : ∀ i x H H', i < n → Pv i H → Y i H x H' → g x (wipe σ vs) H' fun σ2 H2 => wipe σ2 vs = wipe σ vs ∧ tt σ2 H2 fun b H3 => if b = true then wi1 σ2 H3 (InL2 g1 tt1 te vs1 σ2 D (Pv (i + 1))) else Pv (i + 1) H3) (hd : ∀ H, Pv n H → Qd H) :
    ∃ W : Nat → Nat → Hp → Prop, (∃ m, W 0 m H0) ∧ ∀ i m H, W i m H → (J.stop i H ∧ Qd H) ∨ (J.go i H ∧ ∃ Nx : Hp → Prop, (∀ H', Nx H' → ∃ m', m' < m ∧ W (i + 1) m' H') ∧ ∀ x H', J.yld i H x H' → g x (wipe σ vs) H' fun σ2 H2 => wipe σ2 vs = wipe σ vs ∧ tt σ2 H2 fun b H3 => if b = true then wi1 σ2 H3 (InL2 g1 tt1 te vs1 σ2 D Nx) else Nx H3) := by
  refine ⟨fun i m H => (i + m = n) ∧ Pv i H, ⟨n, by omega, h0⟩, fun i m H hW => ?_⟩
  obtain ⟨e, p⟩ := hW
  have gd := hG i H (by omega) p
  cases m with
  | zero =>
    have e' : i = n := by omega
    subst e'
    exact .inl ⟨wk.stops H gd, hd H p⟩
  | succ m => exact .inr ⟨wk.goes i H (by omega) gd, Pv (i + 1), fun H' p' => ⟨m, Nat.lt_succ_self m, by omega, p'⟩, fun x H' y => hs i x H H' (by omega) p (wk.yields i H x H' (by omega) gd y)⟩
theorem lc2_in {J1 : It} {n : Nat} {Gd : Hp → Prop} {Y : Nat → Hp → V → Hp → Prop} (wk : Walk J1 n Gd Y) {g1 : TG} {tt1 : TT} {te : TE} {vs1 : List Nat} {σ2 : L2.St} {D : Addr} {Nx : Hp → Prop} {H3 : Hp} (Pv : Nat → Hp → Prop) (h0 : Pv 0 H3) (hG : ∀ i H, i ≤ n → Pv i H → Gd H)
    (hs : ∀ j y H H', j < n → Pv j H → Y j H y H' → g1 y (wipe σ2 vs1) H' fun σ3 H5 => wipe σ3 vs1 = wipe σ2 vs1 ∧ tt1 σ3 H5 fun b H6 => if b = true then te σ3 H6 fun z H7 => ∃ acc, H7 D = some (.lst acc) ∧ acc.length < sizeLine ∧ Pv (j + 1) (upd H7 D (.lst (acc ++ [z]))) else Pv (j + 1) H6)
    (hd : ∀ H, Pv n H → Nx H) : InL2 g1 tt1 te vs1 σ2 D Nx J1 H3 := by
  refine ⟨fun i m H => (i + m = n) ∧ Pv i H, ⟨n, by omega, h0⟩, fun i m H hW => ?_⟩
  obtain ⟨e, p⟩ := hW
  have gd := hG i H (by omega) p
  cases m with
  | zero =>
    have e' : i = n := by omega
    subst e'
    exact .inl ⟨wk.stops H gd, hd H p⟩
  | succ m => exact .inr ⟨wk.goes i H (by omega) gd, Pv (i + 1), fun H' p' => ⟨m, Nat.lt_succ_self m, by omega, p'⟩, fun y H' yy => hs i y H H' (by omega) p (wk.yields i H y H' (by omega) gd yy)⟩
end
end FF
namespace FF
open PySem PySem.Spec PyProof.Rows L2
variable [LT]
/-! ### xs.remove(y): data of any depth -/
section
variable {X : Cx}
open PyProof
end
/-! ### ties at a point -/
end FF
namespace FF
open PySem PySem.Spec PyProof.Rows L2
variable [LT]
/-! ### defs that raise; try .. except; isinstance of what was caught -/
theorem DefAt.okE {P : Program} {w : World} {K : PySem.W.Frag} {mg : Str → Option Value} {base : Heap} {x : Str} {st : Stmt} {f : Addr} {fd : FuncData} {N ps : List Str} {k : Nat} {sp : Sp} (D : DefAt K mg x st ps f fd) (S : FnScope N ps (defScope st)) (len : ∀ vs H Q E, sp vs H Q E → vs.length = ps.length)
    (hbody : ∀ (A : Around) (outer : List Env) (s : Shared) (H : Hp) (vs : List V) (Q : VK) (E : XK), Room k (A.deeper (envOfC x (defScope st) s.heap.objs.size f fd.code)) → sp vs H Q E →
      ∃ t, PSs (cxOf (L2.CX P w) P w K mg base N x (defScope st) f fd.code A outer s H E) (defBody st) t ∧ t { nx := fun _ H' => Q .non H', rt := Q } (start N vs) H) : FnOk P w K mg base (L2.CX P w) (k + 1) f fd ps sp := by
  obtain ⟨oc, od, dV, kV, doc, pm, an, cdv, ct, osl, rfl, lk, hcd, _, _⟩ := D.F.ex
  exact fn_of lk hcd S len hbody
/-! #### what is told of the classes -/
inductive Xf where
  | glo (x : Str) | exc (x : Str) | ec (x : Str) | exm (x y : Str) (b : Bool) | kit (x y : Str) (b : Bool) | kitT (x : Str) (t : String) (b : Bool)
  deriving DecidableEq
def ecB (K : PySem.W.Frag) (D : Addr) : Bool :=
  He.eqO (PySem.W.findIn K (.ref D) "__getattribute__") (some (some (.builtin "BaseException.__getattribute__"))) && (He.eqO (PySem.W.findIn K (.ref D) "__getattr__") (some none) &&
  (decide (PySem.W.subIn K (.ref D) (.type "BaseException") = some true) && (PySem.W.hasDictIn K D && (He.eqO (PySem.W.findIn K (.ref D) "__class__") (some (some (.builtin "object.__class__"))) &&
  (He.eqO (PySem.W.specialIn K (.builtin "object.__class__") "__get__") (some (some (.builtin "getset_descriptor.__get__"))) && (decide (PySem.W.takesIn K (.builtin "object.__class__") = some true) && decide (PySem.W.mroIn K D (.type "object") = some true)))))))
def Xf.ok (K : PySem.W.Frag) : Xf → Bool
  | .glo x => (He.Fa.glo x).ok K
  | .exc x => (He.Fa.exc x).ok K
  | .ec x => ecB K (He.ga K x)
  | .exm x y b => (He.Fa.exm x y b).ok K
  | .kit x y b => decide (PySem.W.kitOne K (.ref (He.ga K x)) (.ref (He.ga K y)) = some b)
  | .kitT x t b => decide (PySem.W.kitOne K (.ref (He.ga K x)) (.type t) = some b)
theorem ec_ok {K : PySem.W.Frag} {x : Str} (c : (Xf.ec x).ok K = true) : ExcC K (He.ga K x) := by
  obtain ⟨c1, c⟩ := He.ba c
  obtain ⟨c2, c⟩ := He.ba c
  obtain ⟨c3, c⟩ := He.ba c
  obtain ⟨c4, c⟩ := He.ba c
  obtain ⟨c5, c⟩ := He.ba c
  obtain ⟨c6, c⟩ := He.ba c
  obtain ⟨c7, c8⟩ := He.ba c
  exact ⟨He.eqO_ok c1, He.eqO_ok c2, of_decide_eq_true c3, c4, He.eqO_ok c5, He.eqO_ok c6, of_decide_eq_true c7, of_decide_eq_true c8⟩
/-- the classes' facts -/
structure Xcs (xfs : List Xf) (K : PySem.W.Frag) (mg : Str → Option Value) : Prop where
  ok : ∀ f ∈ xfs, f.ok K = true
  g : ∀ x, Xf.glo x ∈ xfs → mg x = some (.ref (He.ga K x))
section
variable {xfs : List Xf} {K : PySem.W.Frag} {mg : Str → Option Value} (c : Xcs xfs K mg)
include c
theorem Xcs.exm {x y : Str} {b : Bool} (h : Xf.exm x y b ∈ xfs) : PySem.W.exmOne K (.ref (He.ga K x)) (.ref (He.ga K y)) = some b := He.exm_ok (c.ok _ h)
theorem Xcs.kit {x y : Str} {b : Bool} (h : Xf.kit x y b ∈ xfs) : PySem.W.kitOne K (.ref (He.ga K x)) (.ref (He.ga K y)) = some b := of_decide_eq_true (c.ok _ h)
theorem Xcs.kitT {x : Str} {t : String} {b : Bool} (h : Xf.kitT x t b ∈ xfs) : PySem.W.kitOne K (.ref (He.ga K x)) (.type t) = some b := of_decide_eq_true (c.ok _ h)
theorem Xcs.ec {x : Str} (h : Xf.ec x ∈ xfs) : ExcC K (He.ga K x) := ec_ok (c.ok _ h)
end
/-! #### what was caught, frozen -/
section
variable {X : Cx}
end
/-! #### try: .. except x as n: suite; what was caught stays, frozen -/
section
variable {X : Cx} {x n : Str} {c : Value} {i : Nat} {body suite : List Stmt} {b0 : Stmt} {np pos pos' : Pos} {tb : WX → TS} {ts : Addr → Value → Option Addr → TS} {Wo : WX}
end
end FF
namespace FF
open PySem PySem.Spec PyProof.Rows L2
variable [LT]
/-! ### drawn partings -/
end FF
namespace FF
open PySem PySem.Spec PyProof.Rows L2
variable [LT]
/-! ### webs drawn together -/
theorem rise_nd {ls : List Int} (h : ls.Pairwise (· < ·)) : ls.Nodup := h.imp fun z => by omega
/-! ### lots that are walked; the data of webs -/
theorem Lot.le {n : Int} {ls : List Int} (h : Lot n ls) : (ls.length : Int) ≤ n := by
  obtain ⟨x, hx⟩ := List.exists_mem_of_ne_nil _ h.ne
  have := h.ok x hx
  have := nd_le (rise_nd h.up) (m := upTo n) fun y hy => upTo_mem.mpr (h.ok y hy)
  rw [upTo_length] at this
  omega
theorem Lot.tie {n a b : Int} (h0 : 0 ≤ a) (h1 : a < b) (h2 : b < n) : Lot n [a, b] := ⟨List.cons_ne_nil _ _, .cons (fun y hy => by rw [List.mem_singleton.mp hy]; exact h1) (List.pairwise_singleton _ _), fun x hx => by
  rcases List.mem_cons.mp hx with rfl | hx
  · exact ⟨h0, by omega⟩
  · rw [List.mem_singleton.mp hx]
    exact ⟨by omega, h2⟩⟩
def dWeb (n : Int) (ts : List (Int × Int)) : PyData := .tuple [.int n, dE ts]
theorem Web.dp {K : PySem.W.Frag} {H : Hp} {v : V} {n : Int} {ts : List (Int × Int)} (W : Web H v n ts) : Dp K H v (dWeb n ts) := by
  obtain ⟨t, u, rs, rfl, h1, h2, h3⟩ := W
  exact .tup (sqT_of h1) (.cons (.int _) (.cons (.tup (sqT_of h2) h3.dpA) .nil))
theorem Lot.head {n : Int} {ls : List Int} (h : Lot n ls) : ls.headD 0 ∈ ls := by
  cases e : ls with
  | nil => exact absurd e h.ne
  | cons x r => exact List.mem_cons_self
end FF
namespace FF
open PySem PySem.Spec PyProof.Rows L2
variable [LT]
/-! ### sorted(tuple of ints) -/
section
variable {prog : Program} {w : World} {A : Around} {E : Value → Shared → Prop} {s : Shared}
end
end FF
namespace FF
open PySem PySem.Spec PyProof.Rows L2
variable [LT]
/-! ### glued layings -/
end FF
namespace FF
open PySem PySem.Spec PyProof.Rows L2
variable [LT]
/-! ### lots of the inner web, in the web -/
end FF
namespace FF
open PySem PySem.Spec PyProof.Rows L2
variable [LT]
/-! ### things that are looked at as webs -/
def tieO (n : Int) : Option (List V) → Bool
  | some [x, .int j] => isNum (.int j) 0 (n - 1) && isNum x 0 (j - 1)
  | _ => false
inductive WT (H : Hp) : V → Bool → Prop
  | no {v : V} {nm : String} (h : TyN H v nm) (hn : nm ≠ "tuple") : WT H v false
  | len {a : Addr} {xs : List V} (h : H a = some (.tup xs)) (hl : xs.length ≠ 2) : WT H (.ref a) false
  | pts {a : Addr} {x y : V} {nm : String} (h : H a = some (.tup [x, y])) (hx : TyN H x nm) (hb : isNum x 1 40 = false) : WT H (.ref a) false
  | tys {a : Addr} {n : Int} {y : V} {nm : String} (h : H a = some (.tup [.int n, y])) (h0 : 1 ≤ n) (h1 : n ≤ 40) (hy : TyN H y nm) (hn : nm ≠ "tuple") : WT H (.ref a) false
  | many {a u : Addr} {n : Int} {rs : List V} (h : H a = some (.tup [.int n, .ref u])) (h0 : 1 ≤ n) (h1 : n ≤ 40) (hu : H u = some (.tup rs)) (hl : 120 < rs.length) : WT H (.ref a) false
  | ties {a u : Addr} {n : Int} {rs : List V} {os : List (Option (List V))} (h : H a = some (.tup [.int n, .ref u])) (h0 : 1 ≤ n) (h1 : n ≤ 40) (hu : H u = some (.tup rs)) (hl : rs.length ≤ 120) (hr : Paired (Tpl H) rs os) : WT H (.ref a) (os.all (tieO n))
theorem Ties.tpl {H : Hp} : ∀ {rs : List V} {ts : List (Int × Int)}, Ties H rs ts → Paired (Tpl H) rs (ts.map fun t => some [V.int t.1, .int t.2])
  | _, _, .nil => .nil
  | _, _, .cons ⟨q, e, h⟩ t => by
    subst e
    exact .cons (.yes h fun x hx => by
      rcases List.mem_cons.mp hx with rfl | hx
      · exact ⟨_, .int _⟩
      · rw [List.mem_singleton.mp hx]
        exact ⟨_, .int _⟩) (Ties.tpl t)
theorem tieO_ok {n : Int} {t : Int × Int} : tieO n (some [V.int t.1, .int t.2]) = true ↔ 0 ≤ t.1 ∧ t.1 < t.2 ∧ t.2 < n := by
  show (((decide (0 ≤ t.2) && decide (t.2 ≤ n - 1)) && (decide (0 ≤ t.1) && decide (t.1 ≤ t.2 - 1))) = true) ↔ _
  rw [Bool.and_eq_true, Bool.and_eq_true, Bool.and_eq_true, decide_eq_true_eq, decide_eq_true_eq, decide_eq_true_eq, decide_eq_true_eq]
  omega
theorem Web.wt {H : Hp} {v : V} {n : Int} {ts : List (Int × Int)} (W : Web H v n ts) (ok : TOk n ts) (h0 : 1 ≤ n) (h1 : n ≤ 40) (hl : ts.length ≤ 120) : WT H v true := by
  obtain ⟨t, u, rs, rfl, h2, h3, h4⟩ := W
  have e : ((ts.map fun t => some [V.int t.1, .int t.2]).all (tieO n)) = true := List.all_eq_true.mpr fun o ho => by
    obtain ⟨t, ht, rfl⟩ := List.mem_map.mp ho
    exact tieO_ok.mpr (ok t ht)
  rw [← e]
  exact .ties h2 h0 h1 h3 (by rw [h4.length]; exact hl) h4.tpl
theorem WT.ke {H H' : Hp} {v : V} {b : Bool} (h : WT H v b) (k : Ke H H') : WT H' v b := by
  cases h with
  | no h hn => exact .no (h.ke k) hn
  | len h hl => exact .len (k.tup h) hl
  | pts h hx hb => exact .pts (k.tup h) (hx.ke k) hb
  | tys h h0 h1 hy hn => exact .tys (k.tup h) h0 h1 (hy.ke k) hn
  | many h h0 h1 hu hl => exact .many (k.tup h) h0 h1 (k.tup hu) hl
  | ties h h0 h1 hu hl hr => exact .ties (k.tup h) h0 h1 (k.tup hu) hl (Paired.mapP hr fun _ _ z => z.ke k)
end FF
namespace FF
open PySem PySem.Spec PyProof.Rows L2
variable [LT]
/-! ### rows of things that are not ties, and of things that are no webs -/
theorem WT.mono {H H' : Hp} {v : V} {b : Bool} (h : WT H v b) (k : ∀ q xs, H q = some (.tup xs) → H' q = some (.tup xs)) (y : ∀ v n, TyN H v n → TyN H' v n) : WT H' v b := by
  cases h with
  | no h hn => exact .no (y _ _ h) hn
  | len h hl => exact .len (k _ _ h) hl
  | pts h hx hb => exact .pts (k _ _ h) (y _ _ hx) hb
  | tys h h0 h1 hy hn => exact .tys (k _ _ h) h0 h1 (y _ _ hy) hn
  | many h h0 h1 hu hl => exact .many (k _ _ h) h0 h1 (k _ _ hu) hl
  | ties h h0 h1 hu hl hr => exact .ties (k _ _ h) h0 h1 (k _ _ hu) hl (Paired.mapP hr fun _ _ z => z.mono k y)
/-- points that are none, with any ties -/
structure PTs (H : Hp) (xs : List V) : Prop where
  all : ∀ x ∈ xs, ∃ nm, TyN H x nm ∧ isNum x 1 40 = false
theorem PTs.nil {H : Hp} : PTs H [] := ⟨fun _ z => nomatch z⟩
theorem PTs.cons {H : Hp} {x : V} {nm : String} {xs : List V} (h : TyN H x nm) (e : isNum x 1 40 = false) (t : PTs H xs) : PTs H (x :: xs) := ⟨fun y hy => by
  rcases List.mem_cons.mp hy with rfl | hy
  · exact ⟨nm, h, e⟩
  · exact t.all y hy⟩
theorem PTs.ke {H H' : Hp} {xs : List V} (h : PTs H xs) (k : Ke H H') : PTs H' xs := ⟨fun x hx => by
  obtain ⟨o, t, e⟩ := h.all x hx
  exact ⟨o, t.ke k, e⟩⟩
theorem PTs.sub {H : Hp} {xs ys : List V} (h : PTs H xs) (k : ∀ y ∈ ys, y ∈ xs) : PTs H ys := ⟨fun y hy => h.all y (k y hy)⟩
theorem PTs.new {H : Hp} {p : Addr} {o : HO} {xs : List V} (h : PTs H xs) (k : H p = none) : PTs (upd H p o) xs := h.ke (Ke.new k)
theorem PTs.wt {H H' : Hp} {xs : List V} {x y : V} {p : Addr} (h : PTs H xs) (hx : x ∈ xs) (k : Ke H H') (hp : H' p = some (.tup [x, y])) : WT H' (.ref p) false := by
  obtain ⟨nm, t, e⟩ := h.all x hx
  exact .pts hp (t.ke k) e
end FF
namespace FF
open PySem PySem.Spec PyProof.Rows L2
variable [LT]
/-! ### l != [] by lengths alone -/
section
variable {X : Cx}
end
/-! ### str(x) of an int or None -/
section
variable {X : Cx}
end
end FF
namespace FF
open PySem PySem.Spec PyProof.Rows L2
variable [LT]
/-! ### how many ties lie between the parts: paths, rounds, full webs -/
/-! ### the most trees of webs that are known -/
end FF
namespace FF
open PySem PySem.Spec PyProof.Rows L2
variable [LT]
/-! ### a class by its name, within a suite too -/
end FF
namespace FF
open PySem PySem.Spec PyProof.Rows L2
variable [LT]
/-! ### tuples that are known to the object: displays and + -/
/-- kinds of things, tuples known to the object among them -/
inductive TyF (H : Hp) : V → String → Prop where
  | non : TyF H .non "NoneType"
  | bl (b : Bool) : TyF H (.bl b) "bool"
  | int (i : Int) : TyF H (.int i) "int"
  | str (x : Str) : TyF H (.str x) "str"
  | lst {a : Addr} {xs : List V} (h : H a = some (.lst xs)) : TyF H (.ref a) "list"
  | tup {a : Addr} {xs : List V} (h : H a = some (.tup xs)) : TyF H (.ref a) "tuple"
  | dic {a : Addr} {kvs : List (Key × V)} (h : H a = some (.dK kvs)) : TyF H (.ref a) "dict"
  | tf {a : Addr} {xs : List V} (h : TF H a xs) : TyF H (.ref a) "tuple"
theorem TyN.f {H : Hp} {v : V} {n : String} (h : TyN H v n) : TyF H v n := by
  cases h with
  | non => exact .non
  | bl b => exact .bl b
  | int i => exact .int i
  | str x => exact .str x
  | lst h => exact .lst h
  | tup h => exact .tup h
  | dic h => exact .dic h
theorem TyF.split {H : Hp} {v : V} {n : String} (h : TyF H v n) : TyN H v n ∨ (n = "tuple" ∧ ∃ a xs, v = .ref a ∧ TF H a xs) := by
  cases h with
  | non => exact .inl .non
  | bl b => exact .inl (.bl b)
  | int i => exact .inl (.int i)
  | str x => exact .inl (.str x)
  | lst h => exact .inl (.lst h)
  | tup h => exact .inl (.tup h)
  | dic h => exact .inl (.dic h)
  | tf h => exact .inr ⟨rfl, _, _, rfl, h⟩
theorem TyF.x {K : PySem.W.Frag} {H : Hp} {v : V} {n : String} (h : TyF H v n) : TyX K H v (.type n) := by
  rcases h.split with h | ⟨rfl, a, xs, rfl, o, ht, _⟩
  · exact h.x
  · exact .fTuple ht
theorem TyF.ke {H H' : Hp} {v : V} {n : String} (h : TyF H v n) (k : Ke H H') : TyF H' v n := by
  rcases h.split with h | ⟨rfl, a, xs, rfl, ht⟩
  · exact (h.ke k).f
  · exact .tf (ht.ke k)
theorem TyF.put {H : Hp} {p : Addr} {xs ys : List V} {v : V} {n : String} (h : TyF H v n) (k : H p = some (.lst xs)) : TyF (upd H p (.lst ys)) v n := by
  rcases h.split with h | ⟨rfl, a, zs, rfl, ht⟩
  · exact (h.put k).f
  · exact .tf (ht.put k)
theorem TyF.dk {H H' : Hp} {p : Addr} {v : V} {n : String} (h : TyF H v n) (k : Dk p H H') (d : Deck H p) : TyF H' v n := by
  rcases h.split with h | ⟨rfl, a, zs, rfl, ht⟩
  · exact (h.dk k d).f
  · exact .tf (ht.dk k d)
inductive ThG (K : PySem.W.Frag) (H : Hp) : V → Option (List V) → Prop where
  | no {v : V} {nm : String} (h : TyF H v nm) (hn : nm ≠ "tuple") : ThG K H v none
  | yes {a : Addr} {xs : List V} (h : SqT K H a xs) (ht : TyX K H (.ref a) (.type "tuple")) (hx : ∀ x ∈ xs, ∃ n, TyF H x n) : ThG K H (.ref a) (some xs)
theorem Tpl.g {K : PySem.W.Frag} {H : Hp} {v : V} {o : Option (List V)} (h : Tpl H v o) : ThG K H v o := by
  cases h with
  | no h hn => exact .no h.f hn
  | yes h hx => exact .yes (sqT_of h) (TyF.x (.tup h)) fun x hm => (hx x hm).imp fun _ z => z.f
end FF
namespace FF
open PySem PySem.Spec PyProof.Rows L2
variable [LT]
/-! ### hung from a told root -/
theorem Hung.less {n : Int} {ts : List (Int × Int)} {ms : List Int} {ds : Nds} (h : Hung n ts ms ds) {m : Int} (hno : ∀ x d y k, 0 ≤ x → x < n → atN ds x = some d → d.up = some (y, k) → k ≠ m) : Hung n ts (but m ms) ds := by
  refine ⟨h.len, fun x x0 x1 => ?_, fun k x y hk => h.tie k x y (mem_but.mp hk).1⟩
  obtain ⟨d, e, o⟩ := h.all x x0 x1
  exact ⟨d, e, o.rng, o.topd, o.root, fun y k hu => by
    obtain ⟨a, ⟨b1, b2⟩, c⟩ := o.step y k hu
    exact ⟨a, ⟨mem_but.mpr ⟨b1, hno x d y k x0 x1 e hu⟩, b2⟩, c⟩, o.pos⟩
/-- each tie of a forest hangs one of its ends below the other -/
theorem Hung.hangs {n : Int} {ts : List (Int × Int)} {ms : List Int} {ds : Nds} (h : Hung n ts ms ds) (F : Fo ts ms) (hm : ∀ m ∈ ms, TOk n [ts.getD m.toNat (0, 0)]) {m : Int} (hmm : m ∈ ms) : ∃ x d y, (0 ≤ x ∧ x < n) ∧ atN ds x = some d ∧ d.up = some (y, m) := by
  refine Classical.byContradiction fun hno => ?_
  have h' : Hung n ts (but m ms) ds := h.less fun x d y k x0 x1 e hu ek => hno ⟨x, d, y, ⟨x0, x1⟩, e, ek ▸ hu⟩
  obtain ⟨t0, t1, t2⟩ := hm m hmm _ List.mem_cons_self
  obtain ⟨d1, e1, _⟩ := h.all (ts.getD m.toNat (0, 0)).1 t0 (by omega)
  obtain ⟨d2, e2, _⟩ := h.all (ts.getD m.toNat (0, 0)).2 (by omega) t2
  have et := h.tie m (ts.getD m.toNat (0, 0)).1 (ts.getD m.toNat (0, 0)).2 hmm (.inl rfl) t0 (by omega) d1 d2 e1 e2
  have ha1 : (ts.getD m.toNat (0, 0)).1 < n := by omega
  have hb0 : 0 ≤ (ts.getD m.toNat (0, 0)).2 := by omega
  have := (h'.top_iff (fun k hk => hm k (mem_but.mp hk).1) t0 ha1 hb0 t2 e1 e2).mp et
  refine forest_apart (t := ts.getD m.toNat (0, 0)) (L' := pick ts (but m ms)) ?_ F.rl this
  have p := (but_perm F.nd hmm).map fun m => ts.getD m.toNat (0, 0)
  rw [List.map_append] at p
  exact p
theorem Hung.down {n : Int} {ts : List (Int × Int)} {ms : List Int} {ds : Nds} (h : Hung n ts ms ds) : ∀ (j : Nat) {x : Int} {d : Nd}, 0 ≤ x → x < n → atN ds x = some d → d.dep = j → ∀ i : Nat, i ≤ j → ∃ y, (0 ≤ y ∧ y < n) ∧ depN ds y = i
  | 0, x, d, x0, x1, e, hd, i, hi => ⟨x, ⟨x0, x1⟩, by rw [depN_of e, hd]; omega⟩
  | j + 1, x, d, x0, x1, e, hd, i, hi => by
    by_cases c : i = j + 1
    · exact ⟨x, ⟨x0, x1⟩, by rw [depN_of e, hd, c]⟩
    have ok := h.nd x0 x1 e
    cases eu : d.up with
    | none =>
      have := (ok.root eu).2
      omega
    | some p =>
      obtain ⟨r, _, d', e', _, p'⟩ := ok.step p.1 p.2 eu
      exact Hung.down h j r.1 r.2 e' (by omega) i (by omega)
end FF
namespace FF
open PySem PySem.Spec PyProof.Rows L2
variable [LT]
/-! ### points that one comes to along ways, and ties turned -/
section
variable {X : Cx} {K : PySem.W.Frag}
end
/-! ### turned -/
/-! ### as few outs as can be -/
theorem TF.ty {K : PySem.W.Frag} {H : Hp} {a : Addr} {xs : List V} (h : TF H a xs) : TyX K H (.ref a) (.type "tuple") := by
  obtain ⟨o, e, _⟩ := h
  exact .fTuple e
end FF
namespace FF
open PySem PySem.Spec PyProof.Rows L2
variable [LT]
/-! ### layers split into forests -/
section
variable {n d : Int} {ts : List (Int × Int)} {ls : List Int}
end
section
variable {n : Int} {ts : List (Int × Int)} {ls : List Int}
end
end FF
namespace FF
open PySem PySem.Spec PyProof.Rows L2
variable [LT]
/-! ### two points tied many times -/
end FF
namespace FF
open PySem PySem.Spec PyProof.Rows L2
variable [LT]
/-! ### a list cut where a truth tells the place -/
section
variable {prog : Program} {w : World} {A : Around} {E : Value → Shared → Prop} {s : Shared}
end
section
variable {prog : Program} {w : World} {A : Around} {E : Value → Shared → Prop} {s : Shared}
end
section
variable {X : Cx} {K : PySem.W.Frag} {e lo : Expr} {te tl : TE} {pos p2 : Pos}
end
end FF
namespace FF
open PySem PySem.Spec PyProof.Rows L2
variable [LT]
/-! ### a ring's layer split -/
end FF
namespace FF
open PySem PySem.Spec PyProof.Rows L2
variable [LT]
/-! ### the set of a tuple of ties -/
section
variable {P : Program} {w : World} {A : Around} {E : Value → Shared → Prop} {s : Shared}
end
section
variable {X : Cx}
end
end FF
namespace FF
open PySem PySem.Spec PyProof.Rows L2
variable [LT]
/-! ### the least outs beside the least forests -/
theorem flat_le {α β : Type} {f : α → List β} {m : Nat} : ∀ {l : List α}, (∀ x ∈ l, (f x).length ≤ m) → (l.flatMap f).length ≤ l.length * m
  | [], _ => Nat.zero_le _
  | x :: l, h => by
    rw [List.flatMap_cons, List.length_append, List.length_cons, Nat.succ_mul]
    have h0 := h x List.mem_cons_self
    have ih := flat_le (f := f) (m := m) (l := l) fun y hy => h y (List.mem_cons_of_mem _ hy)
    omega
end FF
namespace FF
open PySem PySem.Spec PyProof.Rows L2
variable [LT]
/-! ### rooms: pairs of points that a lot holds, and rows for the others -/
def rowP (n a : Int) : List (Int × Int) := (upTo (n - (a + 1))).map fun i => (a, a + 1 + i)
def pairsL (n : Int) : List (Int × Int) := (upTo n).flatMap (rowP n)
theorem rowP_length {n a : Int} : (rowP n a).length = (n - (a + 1)).toNat := by
  unfold rowP
  rw [List.length_map, upTo_length]
def heldB (lots : List (List Int)) (a b : Int) : Bool := lots.any fun ls => decide (a ∈ ls) && decide (b ∈ ls)
inductive RoomI (ts : List (Int × Int)) (n k : Int) (ws : List V) : List (Int × Int) → List (List Int) → List ((Int × Int) × List (Int × Int)) → Prop where
  | nil : RoomI ts n k ws [] [] []
  | held {ps lots rows} {p : Int × Int} (h : RoomI ts n k ws ps lots rows) (hh : heldB lots p.1 p.2 = true) : RoomI ts n k ws (ps ++ [p]) lots rows
  | full {ps lots rows} {p : Int × Int} {ls R : List Int} (h : RoomI ts n k ws ps lots rows) (hh : heldB lots p.1 p.2 = false) (hf : Full_ (ts ++ [p]) n k (ws ++ [.non]) ts.length ls R) : RoomI ts n k ws (ps ++ [p]) (lots ++ [ls]) rows
  | laid {ps lots rows} {p e : Int × Int} {es : List (Int × Int)} {ls : List Int} (h : RoomI ts n k ws ps lots rows) (hh : heldB lots p.1 p.2 = false) (hf : Laid_ (ts ++ [p]) k (ws ++ [.non]) ts.length e es ls) : RoomI ts n k ws (ps ++ [p]) lots (rows ++ [(p, e :: es)])
def RowsH (H : Hp) (rs : List V) (rows : List ((Int × Int) × List (Int × Int))) : Prop := Paired (fun (r : V) (x : (Int × Int) × List (Int × Int)) => ∃ q pr rw xs, r = .ref q ∧ H q = some (.tup [.ref pr, .ref rw]) ∧ H pr = some (.tup [.int x.1.1, .int x.1.2]) ∧ H rw = some (.tup xs) ∧ Ties H xs x.2) rs rows
def RoomD (H : Hp) (x : Addr) (lots : List (List Int)) (rows : List ((Int × Int) × List (Int × Int))) : Prop := ∃ l r xs ys, H x = some (.tup [.ref l, .ref r]) ∧ H l = some (.tup xs) ∧ Lots H xs lots ∧ H r = some (.tup ys) ∧ RowsH H ys rows
theorem RowsH.ke {H H' : Hp} {rs : List V} {rows : List ((Int × Int) × List (Int × Int))} (h : RowsH H rs rows) (k : Ke H H') : RowsH H' rs rows :=
  L2.Paired.mapP h fun _ _ ⟨q, pr, rw, xs, e, h1, h2, h3, h4⟩ => ⟨q, pr, rw, xs, e, k.tup h1, k.tup h2, k.tup h3, h4.ke k⟩
theorem pairs_mem {n : Int} {p : Int × Int} : p ∈ pairsL n ↔ 0 ≤ p.1 ∧ p.1 < p.2 ∧ p.2 < n := by
  unfold pairsL rowP
  rw [List.mem_flatMap]
  constructor
  · rintro ⟨a, ha, hp⟩
    obtain ⟨i, hi, rfl⟩ := List.mem_map.mp hp
    have h1 := upTo_mem.mp ha
    have h2 := upTo_mem.mp hi
    dsimp only
    omega
  · rintro ⟨h0, h1, h2⟩
    exact ⟨p.1, upTo_mem.mpr (by omega), List.mem_map.mpr ⟨p.2 - (p.1 + 1), upTo_mem.mpr (by omega), Prod.ext rfl (by dsimp only; omega)⟩⟩
theorem RowsH.mono {H H' : Hp} {rs : List V} {rows : List ((Int × Int) × List (Int × Int))} (h : RowsH H rs rows) (k : ∀ q xs, H q = some (.tup xs) → H' q = some (.tup xs)) : RowsH H' rs rows :=
  L2.Paired.mapP h fun _ _ ⟨q, pr, rw, xs, e, h1, h2, h3, h4⟩ => ⟨q, pr, rw, xs, e, k _ _ h1, k _ _ h2, k _ _ h3, h4.mono k⟩
theorem RowsH.put {H : Hp} {p : Addr} {o : HO} {zs : List V} {rs : List V} {rows : List ((Int × Int) × List (Int × Int))} (h : RowsH H rs rows) (n : H p = some (.lst zs)) : RowsH (upd H p o) rs rows := h.mono fun q xs e => by rw [upd_ne (ne_of e n (fun z => nomatch z))]; exact e
theorem RowsH.append {H : Hp} : ∀ {rs qs : List V} {ps us : List ((Int × Int) × List (Int × Int))}, RowsH H rs ps → RowsH H qs us → RowsH H (rs ++ qs) (ps ++ us)
  | [], _, [], _, _, h => h
  | _ :: _, _, _ :: _, _, .cons a b, h => .cons a (RowsH.append b h)
theorem RowsH.one {H : Hp} {q pr rw : Addr} {xs : List V} {x : (Int × Int) × List (Int × Int)} (h1 : H q = some (.tup [.ref pr, .ref rw])) (h2 : H pr = some (.tup [.int x.1.1, .int x.1.2])) (h3 : H rw = some (.tup xs)) (h4 : Ties H xs x.2) : RowsH H [.ref q] [x] := .cons ⟨q, pr, rw, xs, rfl, h1, h2, h3, h4⟩ .nil
theorem pairsL_length {n : Int} (h : n ≤ 16) : (pairsL n).length ≤ 256 := by
  refine Nat.le_trans (flat_le (m := 16) fun a ha => ?_) ?_
  · have := upTo_mem.mp ha
    rw [rowP_length]
    omega
  · rw [upTo_length]
    have : n.toNat * 16 ≤ 16 * 16 := Nat.mul_le_mul_right _ (by omega)
    omega
end FF
namespace FF
open PySem PySem.Spec PyProof.Rows L2
variable [LT]
/-! ### what a lot that holds a pair, or a row for it, tells of the web with that tie -/
theorem laidT_whole : ∀ {ts : List (Int × Int)} {ws : List V}, ws.length = ts.length → (∀ x ∈ ws, x ≠ V.non) → laidT ts ws = ts
  | [], [], _, _ => rfl
  | t :: ts, x :: ws, h, hx => by
    rw [laidT_cons, if_neg (hx x List.mem_cons_self), laidT_whole (by simpa using h) fun y hy => hx y (List.mem_cons_of_mem _ hy)]
    rfl
theorem Laid.some_ {ts : List (Int × Int)} {k : Int} {ws : List V} (h : Laid ts k ws) : ∀ x ∈ ws, x ≠ V.non := fun x hx => by
  obtain ⟨j, e, _⟩ := h.num x hx
  rw [e]
  exact fun z => nomatch z
theorem tight_inside {ts : List (Int × Int)} {n k : Int} {ws : List V} {ls : List Int} (hL : Laid ts k ws) (hk : 0 ≤ k) (h : TightL ts n k ws ls) : (inside ls ts : Int) = k * ((ls.length : Int) - 1) := by
  have := (tight_iff hL.k hk h.lot.nd h.lot.ne).mpr fun f f0 f1 => by
    have := h.tight f f0 f1
    omega
  rw [laidT_whole hL.len hL.some_] at this
  exact this
theorem inside_snoc {ls : List Int} {ts : List (Int × Int)} {t : Int × Int} (h1 : t.1 ∈ ls) (h2 : t.2 ∈ ls) : inside ls (ts ++ [t]) = inside ls ts + 1 := by
  rw [inside_app, inside_cons, decide_eq_true h1, decide_eq_true h2]
  rfl
theorem push_all {ts : List (Int × Int)} {t e : Int × Int} {es : List (Int × Int)} {k : Int} {ws : List V} {lv : List Int} (hL : Laid ts k ws) (h : Laid_ (ts ++ [t]) k (ws ++ [.non]) ts.length e es lv) :
    LayK (ts ++ [t]) k (pushL (ws ++ [.non]) (e :: es)) ∧ ∀ x ∈ pushL (ws ++ [.non]) (e :: es), x ≠ V.non := by
  have h0 : (ws ++ [V.non])[ts.length]? = some .non := by rw [← hL.len, List.getElem?_append_right (Nat.le_refl _), Nat.sub_self]; rfl
  obtain ⟨h1, h2⟩ := h.step hL.k.snocN h0
  refine ⟨h1, fun x hx e => ?_⟩
  obtain ⟨i, hi⟩ := List.getElem?_of_mem hx
  rw [e] at hi
  obtain ⟨h3, h4⟩ := (h2 i).mp hi
  have il := (List.getElem?_eq_some_iff.mp h3).1
  have hl := hL.len
  rw [List.length_append] at il
  have il : i < ws.length + 1 := il
  rw [List.getElem?_append_left (by omega)] at h3
  exact hL.some_ _ (List.mem_of_getElem? h3) rfl
end FF
namespace FF
open PySem PySem.Spec PyProof.Rows L2
variable [LT]
/-! ### what rooms_of tells -/
theorem heldB_iff {lots : List (List Int)} {a b : Int} : heldB lots a b = true ↔ ∃ ls ∈ lots, a ∈ ls ∧ b ∈ ls := by
  unfold heldB
  rw [List.any_eq_true]
  constructor
  · rintro ⟨ls, h, hb⟩
    exact ⟨ls, h, by simpa using hb⟩
  · rintro ⟨ls, h, hb⟩
    exact ⟨ls, h, by simpa using hb⟩
theorem tight_back {ts : List (Int × Int)} {n k : Int} {ws : List V} {p : Int × Int} {ls : List Int} (hl : ws.length = ts.length) (h : TightL (ts ++ [p]) n k (ws ++ [.non]) ls) : TightL ts n k ws ls := by
  refine ⟨h.lot, fun f f0 f1 => ?_⟩
  have := h.tight f f0 f1
  rw [layerOf_snoc hl.symm] at this
  simpa using this
theorem RoomI.tight {ts : List (Int × Int)} {n k : Int} {ws : List V} (hL : LayK ts k ws) {ps : List (Int × Int)} {lots : List (List Int)} {rows : List ((Int × Int) × List (Int × Int))} (h : RoomI ts n k ws ps lots rows) : ∀ ls ∈ lots, TightL ts n k ws ls := by
  induction h with
  | nil => exact fun _ z => nomatch z
  | held _ _ ih => exact ih
  | laid _ _ _ ih => exact ih
  | full _ _ hf ih =>
    intro ls hls
    rcases List.mem_append.mp hls with z | z
    · exact ih ls z
    · rw [List.mem_singleton.mp z]
      exact tight_back hL.len (hf.tight hL.snocN).1
theorem RoomI.cover {ts : List (Int × Int)} {n k : Int} {ws : List V} (hL : LayK ts k ws) {ps : List (Int × Int)} {lots : List (List Int)} {rows : List ((Int × Int) × List (Int × Int))} (h : RoomI ts n k ws ps lots rows) : ∀ p ∈ ps, (∃ ls ∈ lots, p.1 ∈ ls ∧ p.2 ∈ ls) ∨ p ∈ rows.map Prod.fst := by
  induction h with
  | nil => exact fun _ z => nomatch z
  | held _ hh ih =>
    intro p hp
    rcases List.mem_append.mp hp with z | z
    · exact ih p z
    · rw [List.mem_singleton.mp z]
      exact .inl (heldB_iff.mp hh)
  | laid _ _ _ ih =>
    intro p hp
    rw [List.map_append]
    rcases List.mem_append.mp hp with z | z
    · exact (ih p z).imp id fun z => List.mem_append_left _ z
    · rw [List.mem_singleton.mp z]
      exact .inr (List.mem_append_right _ List.mem_cons_self)
  | @full ps lots rows p ls R _ _ hf ih =>
    intro x hx
    rcases List.mem_append.mp hx with z | z
    · exact (ih x z).imp (fun ⟨ls, h1, h2⟩ => ⟨ls, List.mem_append_left _ h1, h2⟩) id
    · rw [List.mem_singleton.mp z]
      obtain ⟨_, h1, h2⟩ := hf.tight hL.snocN
      have et : tk (ts ++ [p]) (ts.length : Int) = p := by
        unfold tk
        rw [Int.toNat_natCast, List.getD_eq_getElem?_getD, List.getElem?_append_right (Nat.le_refl _), Nat.sub_self]
        rfl
      rw [et] at h1 h2
      exact .inl ⟨ls, List.mem_append_right _ List.mem_cons_self, h1, h2⟩
theorem RoomI.row {ts : List (Int × Int)} {n k : Int} {ws : List V} {ps : List (Int × Int)} {lots : List (List Int)} {rows : List ((Int × Int) × List (Int × Int))} (h : RoomI ts n k ws ps lots rows) : ∀ x ∈ rows, x.1 ∈ ps ∧ ∃ e es lv, x.2 = e :: es ∧ Laid_ (ts ++ [x.1]) k (ws ++ [.non]) ts.length e es lv := by
  induction h with
  | nil => exact fun _ z => nomatch z
  | held _ _ ih => exact fun x hx => ⟨List.mem_append_left _ (ih x hx).1, (ih x hx).2⟩
  | full _ _ _ ih => exact fun x hx => ⟨List.mem_append_left _ (ih x hx).1, (ih x hx).2⟩
  | laid _ _ hf ih =>
    intro x hx
    rcases List.mem_append.mp hx with z | z
    · exact ⟨List.mem_append_left _ (ih x z).1, (ih x z).2⟩
    · rw [List.mem_singleton.mp z]
      exact ⟨List.mem_append_right _ List.mem_cons_self, _, _, _, rfl, hf⟩
theorem RoomI.once {ts : List (Int × Int)} {n k : Int} {ws : List V} {ps : List (Int × Int)} {lots : List (List Int)} {rows : List ((Int × Int) × List (Int × Int))} (h : RoomI ts n k ws ps lots rows) (nd : ps.Nodup) : (rows.map Prod.fst).Nodup := by
  induction h with
  | nil => exact List.nodup_nil
  | held _ _ ih => exact ih (List.nodup_append.mp nd).1
  | full _ _ _ ih => exact ih (List.nodup_append.mp nd).1
  | @laid ps lots rows p e es ls h _ _ ih =>
    obtain ⟨n1, _, n3⟩ := List.nodup_append.mp nd
    rw [List.map_append]
    refine List.nodup_append.mpr ⟨ih n1, by simp, fun x hx y hy e => ?_⟩
    obtain ⟨z, hz, rfl⟩ := List.mem_map.mp hx
    have hy := List.mem_singleton.mp (show y ∈ [p] from hy)
    exact n3 _ (h.row z hz).1 _ List.mem_cons_self (e.trans hy)
theorem RoomI.apart {ts : List (Int × Int)} {n k : Int} {ws : List V} (hL : Laid ts k ws) (hk : 0 ≤ k) {ps : List (Int × Int)} {lots : List (List Int)} {rows : List ((Int × Int) × List (Int × Int))} (h : RoomI ts n k ws ps lots rows) : ∀ x ∈ rows, ∀ ls ∈ lots, x.1.1 ∈ ls → x.1.2 ∈ ls → False := fun x hx ls hls h1 h2 => by
  have hT := h.tight hL.k ls hls
  obtain ⟨_, e, es, lv, _, hl⟩ := h.row x hx
  obtain ⟨hP, hN⟩ := push_all hL hl
  have := not_full hP hk hN hT.lot.nd hT.lot.ne
  rw [inside_snoc h1 h2] at this
  have := tight_inside hL hk hT
  omega
end FF
namespace FF
open PySem PySem.Spec PyProof.Rows L2
variable [LT]
/-! ### rows picked out of what rooms_of tells -/
theorem RowsH.length {H : Hp} {rs : List V} {rows : List ((Int × Int) × List (Int × Int))} (h : RowsH H rs rows) : rs.length = rows.length := Paired.length h
theorem RowsH.get {H : Hp} : ∀ {rs : List V} {ps : List ((Int × Int) × List (Int × Int))} {i : Nat} {r : V}, RowsH H rs ps → rs[i]? = some r → ∃ x q pr rw xs, ps[i]? = some x ∧ r = .ref q ∧ H q = some (.tup [.ref pr, .ref rw]) ∧ H pr = some (.tup [.int x.1.1, .int x.1.2]) ∧ H rw = some (.tup xs) ∧ Ties H xs x.2
  | _ :: _, _ :: _, 0, _, .cons a _, e => by
    cases e
    obtain ⟨q, pr, rw, xs, h⟩ := a
    exact ⟨_, q, pr, rw, xs, rfl, h⟩
  | _ :: _, _ :: _, i + 1, _, .cons _ b, e => RowsH.get (i := i) b e
theorem RoomI.few {ts : List (Int × Int)} {n k : Int} {ws : List V} {ps : List (Int × Int)} {lots : List (List Int)} {rows : List ((Int × Int) × List (Int × Int))} (h : RoomI ts n k ws ps lots rows) : lots.length ≤ ps.length ∧ rows.length ≤ ps.length := by
  induction h with
  | nil => exact ⟨Nat.le_refl _, Nat.le_refl _⟩
  | held _ _ ih => rw [List.length_append]; exact ⟨Nat.le_trans ih.1 (Nat.le_add_right _ _), Nat.le_trans ih.2 (Nat.le_add_right _ _)⟩
  | full _ _ _ ih => rw [List.length_append, List.length_append]; exact ⟨Nat.add_le_add_right ih.1 1, Nat.le_trans ih.2 (Nat.le_add_right _ _)⟩
  | laid _ _ _ ih => rw [List.length_append, List.length_append]; exact ⟨Nat.le_trans ih.1 (Nat.le_add_right _ _), Nat.add_le_add_right ih.2 1⟩
end FF
namespace FF
open PySem PySem.Spec PyProof.Rows L2
variable [LT]
/-! ### (x,) * k known to the object; t.count(None) -/
section
variable {X : Cx}
end
end FF
namespace FF
open PySem PySem.Spec PyProof.Rows L2
variable [LT]
/-! ### lots within lots -/
def inLotB (a b : List Int) : Bool := !decide (a = b) && a.all fun x => decide (x ∈ b)
def greatF (lots : List (List Int)) : List (List Int) := lots.filter fun l => (lots.filter (inLotB l)).isEmpty
def tightF (n : Nat) (ts : List (Int × Int)) (k : Int) (ws : List V) : List (List Int) := ((lotsF n).filter fun l => !l.isEmpty).filter fun l => decide (1 < l.length) && decide ((inside l (laidT ts ws) : Int) = k * ((l.length : Int) - 1))
theorem eqv_itups (as bs : List Int) : PyData.eqv (.tuple (as.map PyData.int)) (.tuple (bs.map PyData.int)) = decide (as = bs) := by
  rw [PyData.eqv]
  exact eqvAll_ints as bs
theorem all_filter (ys : List Int) : ∀ xs : List Int, ((xs.filter fun x => !decide (x ∈ ys)).map PyData.int).isEmpty = xs.all fun x => decide (x ∈ ys)
  | [] => rfl
  | x :: r => by
    rw [List.filter_cons, List.all_cons]
    by_cases c : x ∈ ys
    · rw [decide_eq_true c]
      exact all_filter ys r
    · rw [decide_eq_false c]
      rfl
end FF
namespace FF
open PySem PySem.Spec PyProof.Rows L2
variable [LT]
/-! ### the sorted list of all pairs -/
end FF
namespace FF
open PySem PySem.Spec PyProof.Rows L2
variable [LT]
/-! ### sorted of a list of tuples of ints, any length -/
theorem each_fun {α β : Type} {R : α → β → Prop} (g : α → β) : ∀ {l : List α}, (∀ x ∈ l, R x (g x)) → PySem.W.EachIs R l (l.map g)
  | [], _ => .nil
  | x :: l, h => .cons (h x List.mem_cons_self) (each_fun g fun y hy => h y (List.mem_cons_of_mem _ hy))
theorem each_fst {α β : Type} : ∀ {l : List α} {m : List (α × β)}, PySem.W.EachIs (fun x b => x = b.1) l m → l = m.map Prod.fst
  | _, _, .nil => rfl
  | _, _, .cons h t => by rw [List.map_cons, ← h, ← each_fst t]
theorem reads_ints {h : Heap} : ∀ {its : List Value} {ns : List Int}, Vals (ns.map V.int) its → PySem.ReadsAll h its (ns.map PyData.int) []
  | _, [], .nil => .nil
  | _, n :: ns, .cons ⟨t, e⟩ r => by
    rw [e]
    exact PySem.ReadsAll.cons (as := []) (bs := []) (.int n t) (reads_ints r)
/-! ### the outs of all ways -/
end FF
namespace FF
open PySem PySem.Spec PyProof.Rows L2
variable [LT]
/-! ### methods of the text's own classes -/
section
variable {P : Program} {w : World} {K : PySem.W.Frag} {mg : Str → Option Value} {base : Heap} {m qual : Str} {st : Stmt} {f C : Addr} {fd : FuncData} {N ps : List Str} {k : Nat} {sp : Sp}
end
/-! a method called within a try -/
section
variable {X : Cx} {CX : CXT} {k : Nat} {f C : Addr} {fd : FuncData} {ps : List Str} {sp : Sp} {E : L2.St → XK} {m : Str} {pos apos : Pos} {e o : Expr} {es : List Expr} {ta : TE} {t : TA}
end
end FF
namespace FF
open PySem PySem.Spec PyProof.Rows L2
variable [LT]
/-! ### a desk's fields -/
section
variable {a b c d e v : V}
end
theorem Kx.web {S : Addr → Prop} {H H' : Hp} {v : V} {n : Int} {ts : List (Int × Int)} (k : Kx S H H') (hs : ∀ b xs, H b = some (.tup xs) → ¬ S b) (W : Web H v n ts) : Web H' v n ts := by
  obtain ⟨tw, wu, rs, rfl, h1, h2, h3⟩ := W
  exact ⟨tw, wu, rs, rfl, k.tup h1 (hs _ _ h1), k.tup h2 (hs _ _ h2), h3.mono fun q xs z => k.tup z (hs _ _ z)⟩
/-! ### what a desk is told, and what it tells -/
/-! ### one forest fewer -/
end FF
namespace FF
open PySem PySem.Spec PyProof.Rows L2
variable [LT]
/-! ### walks within an except suite -/
section
open PySem PySem.Calls HotX
variable {pr : Program} {wo : World} {A : Around} {E : Value → Shared → Prop} {s : Shared}
end
section
open PySem PySem.Calls HotX L2H
end
section
open PySem PySem.Calls HotX L2H
end
section
open HotX L2H
end
section
open HotX L2H
end
end FF
namespace FF
open PySem PySem.Spec PyProof.Rows L2
variable [LT]
/-! ### min of a tuple of ints -/
section
variable {X : Cx} {K : PySem.W.Frag}
end
end FF
namespace FF
open PySem PySem.Spec PyProof.Rows L2
variable [LT]
/-! ### desks: what stays, and what is told as data -/
section
variable {K : PySem.W.Frag} {H H' : Hp} {x : Addr} {n : Int} {ts : List (Int × Int)} {k : Int} {ws : List V} {rv : V} {m : Int}
end
section
variable {K : PySem.W.Frag} {H H' : Hp}
mutual
theorem Dp.mono (hl : ∀ a xs, SqL K H a xs → SqL K H' a xs) (ht : ∀ a xs, SqT K H a xs → SqT K H' a xs) : ∀ (d : PyData) (v : V), Dp K H v d → Dp K H' v d
  | .none, _, h => by
    cases h
    exact .non
  | .bool b, _, h => by
    cases h
    exact .bl b
  | .int i, _, h => by
    cases h
    exact .int i
  | .str x, _, h => by
    cases h
    exact .str x
  | .list ds, _, h => by
    cases h with
    | lst hs ha => exact .lst (hl _ _ hs) (DpAll.mono hl ht ds _ ha)
  | .tuple ds, _, h => by
    cases h with
    | tup hs ha => exact .tup (ht _ _ hs) (DpAll.mono hl ht ds _ ha)
  | .dict _, _, h => by cases h
theorem DpAll.mono (hl : ∀ a xs, SqL K H a xs → SqL K H' a xs) (ht : ∀ a xs, SqT K H a xs → SqT K H' a xs) : ∀ (ds : List PyData) (vs : List V), DpAll K H vs ds → DpAll K H' vs ds
  | [], _, h => by
    cases h
    exact .nil
  | d :: ds, _, h => by
    cases h with
    | cons h1 h2 => exact .cons (Dp.mono hl ht d _ h1) (DpAll.mono hl ht ds _ h2)
end
end
end FF
namespace FF
open PySem PySem.Spec PyProof.Rows L2
variable [LT]
/-! ### what a desk is due to tell, by the fewest forests -/
end FF
namespace FF
open PySem PySem.Spec PyProof.Rows L2
variable [LT]
/-! ### desks: webs, and what stands of a desk -/
end FF
namespace FF
open PySem PySem.Spec PyProof.Rows L2
variable [LT]
/-! ### is not of any thing and a bool -/
end FF
namespace FF
open PySem PySem.Spec PyProof.Rows L2
variable [LT]
/-! ### a desk's deeds, each with one outcome -/
end FF
namespace FF
open PySem PySem.Spec PyProof.Rows L2
variable [LT]
/-! ### a, b, .. = a list of that length -/
end FF
namespace FF
open PySem PySem.Spec PyProof.Rows L2
variable [LT]
/-! ### what is told stays -/
structure Kp (H H' : Hp) : Prop where
  tup : ∀ q xs, H q = some (.tup xs) → H' q = some (.tup xs)
  str : ∀ l s r, H l = some (.lst (.str s :: r)) → H' l = some (.lst (.str s :: r))
theorem Kp.trans {H H' H2 : Hp} (a : Kp H H') (b : Kp H' H2) : Kp H H2 := ⟨fun q xs z => b.tup q xs (a.tup q xs z), fun l s r z => b.str l s r (a.str l s r z)⟩
theorem Ke.kp {H H' : Hp} (k : Ke H H') : Kp H H' := ⟨fun _ _ z => Ke.tup k z, fun _ _ _ z => Ke.lst k z⟩
theorem Kp.put {H : Hp} {p : Addr} {hs hs' : List V} (h : H p = some (.lst hs)) (hn : ∀ s r, hs ≠ .str s :: r) : Kp H (upd H p (.lst hs')) := ⟨fun q xs z => by
  rw [upd_ne (ne_of z h fun y => nomatch y)]
  exact z, fun l s r z => by
  rw [upd_ne fun e => ?_]
  · exact z
  · rw [e, h] at z
    injection z with z
    injection z with z
    exact hn s r z⟩
theorem Dk.kp {p : Addr} {H H' : Hp} (k : Dk p H H') (d : Deck H p) : Kp H H' := ⟨fun q xs z => k.tup d z, fun l s r z => k.lst z fun e => by
  obtain ⟨ds, h, _⟩ := d
  rw [e, h] at z
  injection z with z
  injection z with z
  cases ds with
  | nil => cases z
  | cons a b => cases z⟩
end FF
namespace FF
open PySem PySem.Spec PyProof.Rows L2
variable [LT]
/-! ### sorted(tuple of pairs) -/
section
variable {prog : Program} {w : World} {A : Around} {E : Value → Shared → Prop} {s : Shared}
end
/-! ### collections in which no lot is full -/
section
variable {K : PySem.W.Frag} {H H' : Hp} {x : Addr} {n : Int} {ts : List (Int × Int)} {k : Int} {ws : List V} {rv : V} {m : Int} {l : Addr}
end
end FF
namespace FF
open PySem PySem.Spec PyProof.Rows L2
variable [LT]
/-! ### the search from several ties at once -/
section
variable {ts : List (Int × Int)} {ws : List V} {k : Int} {Zs : List Int} {fl : List (Int × Option (Int × Int))} {lv : Nat → Nat} {a : Nat}
end
section
variable {H : Hp} {n : Int} {ts : List (Int × Int)} {ws : List V} {k : Int} {Zs : List Int} {d nb hg wt : Addr} {bl : List (Int × Addr)} {G G' : Hp} {pl pl' : List (Int × V)} {fl fl' : List (Int × Option (Int × Int))} {lv lv' : Nat → Nat} {a a' : Nat} {gl gl' : List (Int × Addr)}
end
theorem PaL.starts {H : Hp} : ∀ Zs : List Int, PaL H (Zs.map fun s => (s, V.non)) (Zs.map fun s => (s, none))
  | [] => .nil
  | s :: Zs => .cons ⟨rfl, rfl⟩ (PaL.starts Zs)
end FF
namespace FF
open PySem PySem.Spec PyProof.Rows L2
variable [LT]
/-! ### what lies within a tight lot stays there -/
section
variable {ts : List (Int × Int)} {n k : Int} {ws : List V} {ls : List Int}
abbrev inL (ts : List (Int × Int)) (ls : List Int) (m : Int) : Prop := (tk ts m).1 ∈ ls ∧ (tk ts m).2 ∈ ls
theorem TightL.joined (h : TightL ts n k ws ls) (hL : LayK ts k ws) {f : Int} (f0 : 0 ≤ f) (f1 : f < k) {a b : Int} (ha : a ∈ ls) (hb : b ∈ ls) : jn ts ((numsFrom f 0 ws).filter fun m => decide ((tk ts m).1 ∈ ls) && decide ((tk ts m).2 ∈ ls)) a b := by
  have e : pick ts ((numsFrom f 0 ws).filter fun m => decide ((tk ts m).1 ∈ ls) && decide ((tk ts m).2 ∈ ls)) = (layerOf ts ws f).filter fun t => decide (t.1 ∈ ls) && decide (t.2 ∈ ls) := by
    rw [← show pick ts (numsFrom f 0 ws) = layerOf ts ws f from pick_nums f [] ts ws hL.len.symm]
    unfold pick
    rw [List.filter_map]
    rfl
  show foldR (fun x => x) (pick ts _) a = foldR (fun x => x) (pick ts _) b
  rw [e]
  exact tight_joined (hL.tree f) h.lot (h.tight f f0 f1) ha hb
theorem TightL.ring (h : TightL ts n k ws ls) (hL : LayK ts k ws) {f : Int} (f0 : 0 ≤ f) (f1 : f < k) {s x : Int} (hs : inL ts ls s) (ho : OnR ts (numsFrom f 0 ws) s x) : inL ts ls x := by
  by_cases c : inL ts ls x
  · exact c
  · refine (ho.2 (jn_sub (fun m hm => ?_) (h.joined hL f0 f1 hs.1 hs.2))).elim
    obtain ⟨m1, m2⟩ := List.mem_filter.mp hm
    rw [Bool.and_eq_true, decide_eq_true_eq, decide_eq_true_eq] at m2
    unfold but
    refine List.mem_filter.mpr ⟨m1, ?_⟩
    rw [decide_eq_false (p := m = x) fun z => c (by rw [← z]; exact m2)]
    rfl
theorem TightL.rch (h : TightL ts n k ws ls) (hL : LayK ts k ws) {t x : Int} (ht : inL ts ls t) (hr : Rch ts ws k t x) : inL ts ls x := by
  induction hr with
  | base => exact ht
  | step _ f0 f1 _ _ ho ih => exact h.ring hL f0 f1 ih ho
theorem TightL.no_row (h : TightL ts n k ws ls) (hL : LayK ts k ws) : ∀ {es : List (Int × Int)} {e : Int × Int} {r : List (Int × Int)}, es = e :: r → PRow ts ws k es → inL ts ls e.1 → False
  | [], _, _, h0, _, _ => nomatch h0
  | [e], _, _, h0, hp, hi => by
    cases h0
    obtain ⟨_, f0, f1⟩ := hp.bd e (List.mem_singleton.mpr rfl)
    have hj : joinB ts ws e = true := (jn_join hL.len).mpr (jn_sub (fun m hm => (List.mem_filter.mp hm).1) (h.joined hL f0 f1 hi.1 hi.2))
    have hq : (!joinB ts ws e) = true := hp.push
    rw [hj] at hq
    cases hq
  | e :: e' :: r, _, _, h0, hp, hi => by
    cases h0
    obtain ⟨_, f0, f1⟩ := hp.bd e List.mem_cons_self
    have ho := (pushB_parts.mp hp.push).2.1
    exact h.no_row hL rfl hp.tail (h.ring hL f0 f1 hi ho)
theorem TightL.free (h : TightL ts n k ws ls) (hL : LayK ts k ws) {t : Int} (ht : inL ts ls t) : ¬ ∃ d r, PRow ts ws k (d :: r) ∧ d.1 = t := fun ⟨d, r, hp, e⟩ => h.no_row hL rfl hp (e ▸ ht)
end
/-! ### what is reached from a tie that no row lays -/
theorem Closed.tight {ts : List (Int × Int)} {n k : Int} {ws : List V} {R ls : List Int} (h : Closed ts ws k R) (hL : LayK ts k ws) (hE : EndsOf ts R ls) (hl : Lot n ls) (hne : R ≠ []) : TightL ts n k ws ls := ⟨hl, fun f f0 f1 => h.tree hL.len hE hne hL.tree f0 f1⟩
/-! ### the noted lots are the least -/
theorem filter_imp {α : Type} {p q : α → Bool} (h : ∀ x, p x = true → q x = true) (l : List α) : l.filter p = (l.filter q).filter p := by
  rw [List.filter_filter]
  refine List.filter_congr fun x _ => ?_
  cases e : p x with
  | false => rfl
  | true => rw [h x e]; rfl
/-- ties within a tight lot are the same when more is laid -/
theorem TightL.back {ts : List (Int × Int)} {n k : Int} {ws ws' : List V} {ls ls' : List Int} (h : TightL ts n k ws ls) (hk : 0 ≤ k) (hL : LayK ts k ws) (hL' : LayK ts k ws') (hs : ∀ i : Nat, ws'[i]? = some .non → ws[i]? = some .non) (h' : TightL ts n k ws' ls') (sub : ∀ x ∈ ls', x ∈ ls) : TightL ts n k ws ls' := by
  refine ⟨h'.lot, fun f f0 f1 => ?_⟩
  have hst := h.stay hk hL hL' hs
  have e1 := (tight_iff hL hk h.lot.nd h.lot.ne).mpr fun f f0 f1 => by have := h.tight f f0 f1; omega
  have e2 := (tight_iff hL' hk h.lot.nd h.lot.ne).mpr fun f f0 f1 => by have := hst.tight f f0 f1; omega
  have sl := (laidT_sub (ts := ts) (hL'.len.trans hL.len.symm) hs).filter fun t : Int × Int => decide (t.1 ∈ ls) && decide (t.2 ∈ ls)
  have ee : (laidT ts ws).filter (fun t : Int × Int => decide (t.1 ∈ ls) && decide (t.2 ∈ ls)) = (laidT ts ws').filter fun t : Int × Int => decide (t.1 ∈ ls) && decide (t.2 ∈ ls) := sl.eq_of_length (by
    unfold inside at e1 e2
    omega)
  have hp : ∀ t : Int × Int, (decide (t.1 ∈ ls') && decide (t.2 ∈ ls')) = true → (decide (t.1 ∈ ls) && decide (t.2 ∈ ls)) = true := fun t z => by
    rw [Bool.and_eq_true, decide_eq_true_eq, decide_eq_true_eq] at z ⊢
    exact ⟨sub _ z.1, sub _ z.2⟩
  have e3 : inside ls' (laidT ts ws) = inside ls' (laidT ts ws') := by
    unfold inside
    rw [filter_imp hp (laidT ts ws), filter_imp hp (laidT ts ws'), ee]
  have e4 := (tight_iff hL' hk h'.lot.nd h'.lot.ne).mpr fun f f0 f1 => by have := h'.tight f f0 f1; omega
  rw [← e3] at e4
  have := (tight_iff hL hk h'.lot.nd h'.lot.ne).mp e4 f f0 f1
  omega
end FF
namespace FF
open PySem PySem.Spec PyProof.Rows L2
variable [LT]
/-! ### which ties some fullest laying leaves out -/
section
variable {ts : List (Int × Int)} {n k : Int} {ws : List V} {Zs : List Int} {fl : List (Int × Option (Int × Int))} {lv : Nat → Nat} {a : Nat}
/-! ### the row that leaves a tie out -/
end
end FF
namespace FF
open PySem PySem.Spec PyProof.Rows L2
variable [LT]
/-! ### what needed_ties tells -/
theorem Pth.key {fl : FlT} {x : Int} {es : List (Int × Int)} (h : Pth fl x es) : x ∈ fl.map Prod.fst := by
  cases h with
  | root h => exact List.mem_map.mpr ⟨_, h, rfl⟩
  | step h _ => exact List.mem_map.mpr ⟨_, h, rfl⟩
end FF
namespace FF
open PySem PySem.Spec PyProof.Rows L2
variable [LT]
/-! ### all layings of a small web -/
/-- a laying of one tie more is a laying and an entry -/
theorem LayK.init {ts : List (Int × Int)} {k : Int} {ws : List V} {i : Nat} (hi : i < ts.length) (h : LayK (ts.take (i + 1)) k ws) : ∃ us x, ws = us ++ [x] ∧ LayK (ts.take i) k us ∧ (x = .non ∨ ∃ f, x = V.int f ∧ 0 ≤ f ∧ f < k) := by
  have hl := h.len
  rw [List.length_take] at hl
  have hne : ws ≠ [] := fun z => by rw [z] at hl; have : 0 = min (i + 1) ts.length := hl; omega
  obtain ⟨us, x, rfl⟩ : ∃ us x, ws = us ++ [x] := ⟨_, _, (List.dropLast_concat_getLast hne).symm⟩
  rw [List.length_append, List.length_singleton] at hl
  refine ⟨us, x, rfl, ?_, h.each x (List.mem_append_right _ List.mem_cons_self)⟩
  have := h.erase (g := i) (by rw [List.length_take]; omega)
  rw [show (us ++ [x]).eraseIdx i = us by rw [List.eraseIdx_append_of_length_le (by omega), show i - us.length = 0 by omega]; exact List.append_nil _, show (ts.take (i + 1)).eraseIdx i = ts.take i by rw [List.take_add_one, List.eraseIdx_append_of_length_le (by rw [List.length_take]; omega), List.length_take, show i - min i ts.length = 0 by omega, List.getElem?_eq_getElem hi]; exact List.append_nil _] at this
  exact this
end FF
namespace FF
open PySem PySem.Spec PyProof.Rows L2
variable [LT]
/-! ### what needed_ties tells, as data -/
end FF
namespace FF
open PySem PySem.Spec PyProof.Rows L2
variable [LT]
/-! ### a search that notes whence each came -/
section
variable {H H' : Hp} {kl : List (Int × V)} {pl : List (Int × Option (Int × Int))}
end
section
variable {n : Int} {ts : List (Int × Int)} {ms : List Int} {a : Int} {pl : List (Int × Option (Int × Int))}
end
end FF
namespace FF
open PySem PySem.Spec PyProof.Rows L2
variable [LT]
/-! ### tuple(reversed(xs)) -/
section
variable {prog : Program} {w : World} {A : Around} {E : Value → Shared → Prop} {s : Shared}
end
section
variable {X : Cx}
end
end FF
namespace FF
open PySem PySem.Spec PyProof.Rows L2
variable [LT]
/-! ### rows that lay a tie, as the program looks at them -/
end FF
namespace FF
open PySem PySem.Spec PyProof.Rows L2
variable [LT]
/-! ### rooms of all tight lots -/
theorem mem_tightF {n : Nat} {ts : List (Int × Int)} {k : Int} {ws : List V} (hL : LayK ts k ws) (hk : 0 ≤ k) {ls : List Int} : ls ∈ tightF n ts k ws ↔ TightL ts (n : Int) k ws ls ∧ 2 ≤ ls.length := by
  unfold tightF
  rw [List.mem_filter, List.mem_filter, Bool.and_eq_true, decide_eq_true_eq, decide_eq_true_eq]
  constructor
  · rintro ⟨⟨h1, h2⟩, h3, h4⟩
    obtain ⟨o1, o2, _⟩ := lotsF_ok n ls h1
    have hne : ls ≠ [] := fun z => by rw [z] at h3; exact absurd h3 (by decide)
    refine ⟨⟨⟨hne, o1, o2⟩, fun f f0 f1 => ?_⟩, h3⟩
    have := (tight_iff hL hk (rise_nd o1) hne).mp h4 f f0 f1
    omega
  · rintro ⟨h1, h2⟩
    have hne : ls ≠ [] := h1.lot.ne
    refine ⟨⟨lotsF_all n h1.lot.up h1.lot.ok, ?_⟩, by omega, (tight_iff hL hk h1.lot.nd hne).mpr fun f f0 f1 => ?_⟩
    · cases ls with
      | nil => exact absurd rfl hne
      | cons _ _ => rfl
    · have := h1.tight f f0 f1
      omega
theorem tightF_len {n : Nat} {ts : List (Int × Int)} {k : Int} {ws : List V} : (tightF n ts k ws).length ≤ 2 ^ n := by
  unfold tightF
  refine Nat.le_trans (List.length_filter_le _ _) (Nat.le_trans (List.length_filter_le _ _) ?_)
  rw [lotsF_len]
  exact Nat.le_refl _
theorem sub_filter : ∀ {xs ys : List (Int × Int)}, xs.Sublist ys → ys.Nodup → xs = ys.filter fun y => decide (y ∈ xs) := by
  intro xs ys h
  induction h with
  | slnil => exact fun _ => rfl
  | @cons l1 l2 a h ih =>
    intro nd
    obtain ⟨n1, n2⟩ := List.nodup_cons.mp nd
    rw [List.filter_cons_of_neg (by rw [decide_eq_false fun z => n1 (h.subset z)]; decide)]
    exact ih n2
  | @cons_cons l1 l2 a h ih =>
    intro nd
    obtain ⟨n1, n2⟩ := List.nodup_cons.mp nd
    rw [List.filter_cons_of_pos (by rw [decide_eq_true List.mem_cons_self])]
    congr 1
    refine (ih n2).trans (List.filter_congr fun y hy => decide_eq_decide.mpr ⟨fun z => List.mem_cons_of_mem _ z, fun z => ?_⟩)
    rcases List.mem_cons.mp z with rfl | z
    · exact absurd hy n1
    · exact z
section
variable {ts : List (Int × Int)} {n k : Int} {ws : List V} {ps : List (Int × Int)} {lots lots' : List (List Int)} {rows rows' : List ((Int × Int) × List (Int × Int))}
theorem RoomI.sub (h : RoomI ts n k ws ps lots rows) : (rows.map Prod.fst).Sublist ps := by
  induction h with
  | nil => exact .slnil
  | held _ _ ih => exact ih.trans (List.sublist_append_left _ _)
  | full _ _ _ ih => exact ih.trans (List.sublist_append_left _ _)
  | laid _ _ _ ih =>
    rw [List.map_append]
    exact ih.append (List.Sublist.refl _)
theorem RoomI.pairs (h : RoomI ts n k ws ps lots rows) (hL : Laid ts k ws) (hk : 0 ≤ k) (nd : ps.Nodup) : rows.map Prod.fst = ps.filter fun p => !heldB lots p.1 p.2 := by
  refine (sub_filter h.sub nd).trans (List.filter_congr fun p hp => ?_)
  rcases h.cover hL.k p hp with ⟨ls, h1, h2⟩ | h1
  · rw [heldB_iff.mpr ⟨ls, h1, h2⟩, decide_eq_false fun z => ?_]
    · rfl
    · obtain ⟨x, hx, rfl⟩ := List.mem_map.mp z
      exact h.apart hL hk x hx ls h1 h2.1 h2.2
  · rw [decide_eq_true h1]
    cases c : heldB lots p.1 p.2 with
    | false => rfl
    | true =>
      obtain ⟨ls, g1, g2⟩ := heldB_iff.mp c
      obtain ⟨x, hx, rfl⟩ := List.mem_map.mp h1
      exact (h.apart hL hk x hx ls g1 g2.1 g2.2).elim
theorem RoomI.two (h : RoomI ts n k ws ps lots rows) (hL : LayK ts k ws) (hp : ∀ p ∈ ps, p.1 < p.2) : ∀ ls ∈ lots, 2 ≤ ls.length := by
  induction h with
  | nil => exact fun _ z => nomatch z
  | held _ _ ih => exact ih fun p h => hp p (List.mem_append_left _ h)
  | laid _ _ _ ih => exact ih fun p h => hp p (List.mem_append_left _ h)
  | @full ps lots rows p ls R _ _ hf ih =>
    intro l hl
    rcases List.mem_append.mp hl with z | z
    · exact ih (fun p h => hp p (List.mem_append_left _ h)) l z
    · rw [List.mem_singleton.mp z]
      obtain ⟨_, h1, h2⟩ := hf.tight hL.snocN
      have et : tk (ts ++ [p]) (ts.length : Int) = p := by
        unfold tk
        rw [Int.toNat_natCast, List.getD_eq_getElem?_getD, List.getElem?_append_right (Nat.le_refl _), Nat.sub_self]
        rfl
      rw [et] at h1 h2
      have hlt := hp p (List.mem_append_right _ List.mem_cons_self)
      have := nd_le (l := [p.1, p.2]) (m := ls) (by simp; omega) fun x hx => by
        rcases List.mem_cons.mp hx with rfl | hx
        · exact h1
        · rw [List.mem_singleton.mp hx]
          exact h2
      exact this
theorem RoomI.same (hw : ws.length = ts.length) (h : RoomI ts n k ws ps lots rows) : RoomI ts n k ws ps lots' rows' → lots = lots' ∧ rows = rows' := by
  induction h generalizing lots' rows' with
  | nil =>
    intro h2
    generalize ep : ([] : List (Int × Int)) = qs at h2
    cases h2 with
    | nil => exact ⟨rfl, rfl⟩
    | held _ _ => exact absurd ep (by simp)
    | full _ _ _ => exact absurd ep (by simp)
    | laid _ _ _ => exact absurd ep (by simp)
  | @held ps lots rows p h hh ih =>
    intro h2
    generalize ep : ps ++ [p] = qs at h2
    cases h2 with
    | nil => exact absurd ep (by simp)
    | held h' hh' =>
      obtain ⟨rfl, e2⟩ := List.append_inj' ep rfl
      exact ih h'
    | full h' hh' _ =>
      obtain ⟨rfl, e2⟩ := List.append_inj' ep rfl
      cases e2
      obtain ⟨rfl, rfl⟩ := ih h'
      rw [hh] at hh'
      cases hh'
    | laid h' hh' _ =>
      obtain ⟨rfl, e2⟩ := List.append_inj' ep rfl
      cases e2
      obtain ⟨rfl, rfl⟩ := ih h'
      rw [hh] at hh'
      cases hh'
  | @full ps lots rows p ls R h hh hf ih =>
    intro h2
    generalize ep : ps ++ [p] = qs at h2
    cases h2 with
    | nil => exact absurd ep (by simp)
    | held h' hh' =>
      obtain ⟨rfl, e2⟩ := List.append_inj' ep rfl
      cases e2
      obtain ⟨rfl, rfl⟩ := ih h'
      rw [hh] at hh'
      cases hh'
    | full h' hh' hf' =>
      obtain ⟨rfl, e2⟩ := List.append_inj' ep rfl
      cases e2
      obtain ⟨rfl, rfl⟩ := ih h'
      rw [hf.same hf']
      exact ⟨rfl, rfl⟩
    | laid h' hh' hl' =>
      obtain ⟨rfl, e2⟩ := List.append_inj' ep rfl
      cases e2
      exact (hl'.not_full (by rw [List.length_append, List.length_append, hw]; rfl) hf).elim
  | @laid ps lots rows p e es ls h hh hl ih =>
    intro h2
    generalize ep : ps ++ [p] = qs at h2
    cases h2 with
    | nil => exact absurd ep (by simp)
    | held h' hh' =>
      obtain ⟨rfl, e2⟩ := List.append_inj' ep rfl
      cases e2
      obtain ⟨rfl, rfl⟩ := ih h'
      rw [hh] at hh'
      cases hh'
    | full h' hh' hf' =>
      obtain ⟨rfl, e2⟩ := List.append_inj' ep rfl
      cases e2
      exact (hl.not_full (by rw [List.length_append, List.length_append, hw]; rfl) hf').elim
    | laid h' hh' hl' =>
      obtain ⟨rfl, e2⟩ := List.append_inj' ep rfl
      cases e2
      obtain ⟨rfl, rfl⟩ := ih h'
      rw [(hl.same hl').1]
      exact ⟨rfl, rfl⟩
end
/-! ### rooms as data -/
def dRow (x : (Int × Int) × List (Int × Int)) : PyData := .tuple [.tuple [.int x.1.1, .int x.1.2], dE x.2]
def dRoom (lots : List (List Int)) (rows : List ((Int × Int) × List (Int × Int))) : PyData := .tuple [.tuple (lots.map fun l => .tuple (l.map PyData.int)), .tuple (rows.map dRow)]
theorem RowsH.dp {K : PySem.W.Frag} {H : Hp} : ∀ {rs : List V} {rows : List ((Int × Int) × List (Int × Int))}, RowsH H rs rows → DpAll K H rs (rows.map dRow)
  | [], [], .nil => .nil
  | _ :: _, _ :: _, .cons ⟨q, pr, rw, xs, e, h1, h2, h3, h4⟩ t => by
    subst e
    exact .cons (.tup (sqT_of h1) (.cons (.tup (sqT_of h2) (.cons (.int _) (.cons (.int _) .nil))) (.cons (.tup (sqT_of h3) h4.dpA) .nil))) (RowsH.dp t)
theorem RoomD.dp {K : PySem.W.Frag} {H : Hp} {x : Addr} {lots : List (List Int)} {rows : List ((Int × Int) × List (Int × Int))} (h : RoomD H x lots rows) : Dp K H (.ref x) (dRoom lots rows) := by
  obtain ⟨l, r, xs, ys, h1, h2, h3, h4, h5⟩ := h
  exact .tup (sqT_of h1) (.cons (.tup (sqT_of h2) h3.dp) (.cons (.tup (sqT_of h4) h5.dp) .nil))
theorem RoomD.mono {H H' : Hp} {x : Addr} {lots : List (List Int)} {rows : List ((Int × Int) × List (Int × Int))} (h : RoomD H x lots rows) (k : ∀ q xs, H q = some (.tup xs) → H' q = some (.tup xs)) : RoomD H' x lots rows := by
  obtain ⟨l, r, xs, ys, h1, h2, h3, h4, h5⟩ := h
  exact ⟨l, r, xs, ys, k _ _ h1, k _ _ h2, h3.mono k, k _ _ h4, h5.mono k⟩
end FF
namespace FF
open PySem PySem.Spec PyProof.Rows L2
variable [LT]
/-! ### layings that are known to the object -/
theorem TF.kx {S : Addr → Prop} {H H' : Hp} {a : Addr} {xs : List V} (h : TF H a xs) (k : Kx S H H') (n : ¬ S a) : TF H' a xs := by
  obtain ⟨o, e, d⟩ := h
  exact ⟨o, k.at_ a _ e (fun _ z => nomatch z) n, d⟩
theorem TF.ne {H : Hp} {a b : Addr} {xs : List V} {u : HO} (h : TF H a xs) (e : H b = some u) (n : ∀ o ys, u ≠ .frz o (.tup ys)) : a ≠ b := fun z => by
  obtain ⟨o, e1, _⟩ := h
  rw [z, e] at e1
  exact n _ _ (Option.some.inj e1)
end FF
namespace FF
open PySem PySem.Spec PyProof.Rows L2
variable [LT]
/-! ### how many ties one forest more lays -/
end FF
namespace FF
open PySem PySem.Spec PyProof.Rows L2
variable [LT]
/-! ### things looked into to any depth -/
/-! ### rooms of any thing -/
end FF
namespace FF
open PySem PySem.Spec PyProof.Rows L2
variable [LT]
/-! ### papers of rooms, of any thing -/
end FF
namespace FF
open PySem PySem.Spec PyProof.Rows L2
variable [LT]
/-! ### rows of things looked into five deep -/
end FF
namespace FF
open PySem PySem.Spec PyProof.Rows L2
variable [LT]
/-! ### the answer about a paper of rooms stays -/
end FF
namespace FF
open PySem PySem.Spec PyProof.Rows L2
variable [LT]
/-! ### tables of defs with a lambda -/
def LTabs (lt : List (Addr × Str)) (H : Hp) : Prop := ∀ p ∈ lt, LamX.TabS H p.1 p.2
/-- what is told of the list of such tables -/
structure LtOk (lt : List (Addr × Str)) : Prop where
  lam : ∀ p ∈ lt, LT.lam p.1 = true
  one : ∀ p ∈ lt, ∀ q ∈ lt, p.1 = q.1 → p.2 = q.2
theorem LTabs.kx {lt : List (Addr × Str)} (ok : LtOk lt) {S : Addr → Prop} {H H' : Hp} (h : LTabs lt H) (k : Kx S H H') (hS : ∀ b, S b → (∀ ps, H b ≠ some (.tbl ps)) ∧ ∀ c q, H b ≠ some (LamX.CodeO c q)) : LTabs lt H' := fun p hp => by
  obtain ⟨ps, e1, e2, e3⟩ := h p hp
  refine ⟨ps, k.lam _ ps (ok.lam p hp) (fun z => (hS _ z).1 ps e1) e1, e2, fun pos cv hc => ?_⟩
  obtain ⟨c, g1, g2⟩ := e3 pos cv hc
  exact ⟨c, g1, k.at_ c _ g2 LamX.codeO_ne fun z => (hS _ z).2 c _ g2⟩
theorem LTabs.ke {lt : List (Addr × Str)} (ok : LtOk lt) {H H' : Hp} (h : LTabs lt H) (k : Ke H H') : LTabs lt H' := h.kx ok k fun _ z => z.elim
theorem LTabs.at_lst {lt : List (Addr × Str)} (ok : LtOk lt) {p : Addr} {xs : List V} {H H' : Hp} (h : LTabs lt H) (k : Kx (fun b => b = p) H H') (hp : H p = some (.lst xs)) : LTabs lt H' := h.kx ok k fun b z => by
  rw [z]
  exact ⟨fun ps e => (by rw [hp] at e; cases e), fun c q e => (by rw [hp] at e; unfold LamX.CodeO at e; cases e)⟩
theorem LTabs.dk {lt : List (Addr × Str)} (ok : LtOk lt) {p : Addr} {H H' : Hp} (h : LTabs lt H) (k : Dk p H H') (d : Deck H p) : LTabs lt H' := by
  obtain ⟨ds, e, _⟩ := d
  exact h.at_lst ok k.k e
/-- what the making of a lambda, or a call of a def that makes one, leaves as it was: all but tables of such -/
abbrev Kl (lt : List (Addr × Str)) := Kx fun b => ∃ p ∈ lt, p.1 = b
theorem Kl.not {lt : List (Addr × Str)} {H : Hp} (h : LTabs lt H) {b : Addr} {o : HO} (e : H b = some o) (n : ∀ ps, o ≠ .tbl ps) : ¬ ∃ p ∈ lt, p.1 = b := fun ⟨p, hp, z⟩ => by
  obtain ⟨ps, g, _⟩ := h p hp
  rw [z, e] at g
  exact n ps (Option.some.inj g)
theorem Kl.at' {lt : List (Addr × Str)} {H H' : Hp} (k : Kl lt H H') (h : LTabs lt H) {b : Addr} {o : HO} (e : H b = some o) (n : ∀ ps, o ≠ .tbl ps) : H' b = some o := k.at_ b o e n (Kl.not h e n)
theorem Kl.lst' {lt : List (Addr × Str)} {H H' : Hp} (k : Kl lt H H') (h : LTabs lt H) {q : Addr} {xs : List V} (e : H q = some (.lst xs)) : H' q = some (.lst xs) := k.at' h e fun _ z => nomatch z
theorem Kl.deck {lt : List (Addr × Str)} {H H' : Hp} {p : Addr} (k : Kl lt H H') (h : LTabs lt H) (d : Deck H p) : Deck H' p := by
  obtain ⟨ds, e, g⟩ := d
  exact ⟨ds, k.lst' h e, g⟩
theorem Ke.kl {lt : List (Addr × Str)} {H H' : Hp} (k : Ke H H') : Kl lt H H' := k.to
section
variable {X : Cx} {pins : List (Addr × Obj)} {σ : L2.St} {H : Hp} {s : Shared}
end
end FF
namespace FF
open PySem PySem.Spec PyProof.Rows L2
variable [LT]
/-! ### a lambda of one parameter: its names, its call -/
section
variable {X : Cx} {pins : List (Addr × Obj)} {σ : L2.St} {H : Hp} {s : Shared}
end
end FF
namespace FF
open PySem PySem.Spec PyProof.Rows L2
variable [LT]
/-! ### sorted(.., key=a lambda) -/
section
variable {prog : Program} {w : World} {A : Around} {E : Value → Shared → Prop}
end
section
variable {X : Cx} {pins : List (Addr × Obj)} {σ : L2.St} {H : Hp} {s : Shared}
end
end FF
namespace FF
open PySem PySem.Spec PyProof.Rows L2
variable [LT]
/-! ### sorted(.., key=a lambda): the rules -/
section
variable {X : Cx} {pins : List (Addr × Obj)} {σ : L2.St} {H : Hp} {s : Shared}
end
end FF
namespace FF
open PySem PySem.Spec PyProof.Rows L2
variable [LT]
/-! ### sorted(list, key=a lambda), sorted(range(..), key=a lambda) -/
section
variable {X : Cx} {lt : List (Addr × Str)} {c P : Addr} {N : List Str} {src : List Nat} {p : Str} {scope : Scope} {params : Arguments} {body e : Expr} {k : Nat} {te tb : TE} {p1 lpos kpos pos : Pos}
end
end FF
namespace FF
open PySem PySem.Spec PyProof.Rows L2
variable [LT]
/-! ### ties in the order of cheapness, laid one after the other -/
def prI (ps : List Int) (i : Nat) : Int := ps.getD i 0
/-- i is cheaper than j -/
def chB (ps : List Int) (i j : Nat) : Prop := prI ps i < prI ps j ∨ (prI ps i = prI ps j ∧ i < j)
instance (ps : List Int) (i j : Nat) : Decidable (chB ps i j) := by unfold chB; exact inferInstance
/-! the ties of numbers, those laid among them -/
def tsN (ts : List (Int × Int)) (l : List Nat) : List (Int × Int) := l.map fun i => ts.getD i (0, 0)
def ldN (ws : List V) (l : List Nat) : List Nat := l.filter fun i => !decide (ws.getD i .non = V.non)
theorem laidT_tsN : ∀ {ts : List (Int × Int)} {ws : List V}, ws.length = ts.length → laidT ts ws = tsN ts (ldN ws (List.range ts.length)) := by
  intro ts ws hl
  have h := pick_laid hl ts.length (Nat.le_refl _)
  rw [List.take_length, List.take_of_length_le (by omega)] at h
  rw [← h]
  unfold pick laidM tsN ldN upTo
  rw [Int.toNat_natCast, List.filter_map, List.map_map]
  rfl
theorem tsN_perm {ts : List (Int × Int)} {l m : List Nat} (h : l.Perm m) : (tsN ts l).Perm (tsN ts m) := h.map _
/-- no lot has more laid ties within than its forests hold -/
theorem LayK.most {ts : List (Int × Int)} {k : Int} {ws : List V} (hL : LayK ts k ws) (hk : 0 ≤ k) {ls : List Int} (hn : ls.Nodup) (hne : ls ≠ []) : (inside ls (laidT ts ws) : Int) ≤ k * ((ls.length : Int) - 1) := by
  have e := inside_laid ls hL.len hL.each
  rw [e]
  have hm := sum_most (s := (ls.length : Int) - 1) (g := fun f => (inside ls (layerOf ts ws f) : Int)) (l := upTo k) fun f _ => by
    have := inside_forest (hL.tree f) hn hne
    show (inside ls (layerOf ts ws f) : Int) ≤ _
    omega
  have hl : ((upTo k).length : Int) = k := by rw [upTo_length]; omega
  rw [hl] at hm
  exact hm.1
/-! the law's own: each tie, in the order, that can be laid with those taken ahead -/
end FF
namespace FF
open PySem PySem.Spec PyProof.Rows L2
variable [LT]
/-! ### (p, i) < (q, j), (p, i) > (q, j) -/
end FF
namespace FF
open PySem PySem.Spec PyProof.Rows L2
variable [LT]
/-! ### papers of cheapest ties, of any thing -/
end FF
namespace FF
open PySem PySem.Spec PyProof.Rows L2
variable [LT]
/-! ### no others that can be laid are more -/
theorem lay_tsN {ts : List (Int × Int)} {ws : List V} (h : ws.length = ts.length) (f : Int) : layerOf ts ws f = tsN ts ((List.range ts.length).filter fun i => decide (ws.getD i .non = V.int f)) := by
  unfold layerOf tsN
  have key : ∀ m, m ≤ ts.length → (((ts.take m).zip (ws.take m)).filter fun p => decide (p.2 = V.int f)).map Prod.fst = ((List.range m).filter fun i => decide (ws.getD i .non = V.int f)).map fun i => ts.getD i (0, 0) := by
    intro m
    induction m with
    | zero => exact fun _ => rfl
    | succ m ih =>
      intro hm
      have h1 : ts[m]? = some (ts.getD m (0, 0)) := by rw [List.getD_eq_getElem?_getD, List.getElem?_eq_getElem (by omega)]; rfl
      have h2 : ws[m]? = some (ws.getD m .non) := by rw [List.getD_eq_getElem?_getD, List.getElem?_eq_getElem (by omega)]; rfl
      rw [take_next h1, take_next h2, List.zip_append (by rw [List.length_take, List.length_take]; omega), List.filter_append, List.map_append, ih (by omega), List.range_succ, List.filter_append, List.map_append]
      congr 1
      show (List.filter _ [(ts.getD m (0, 0), ws.getD m .non)]).map Prod.fst = _
      rw [List.filter_cons, List.filter_cons]
      dsimp only
      split <;> rfl
  have := key ts.length (Nat.le_refl _)
  rw [List.take_length, List.take_of_length_le (by omega)] at this
  exact this
theorem getD_map_pre {α : Type} (pre : List Nat) (g : Nat → α) (d : α) (i : Nat) (hi : i < pre.length) : (pre.map g).getD i d = g (pre.getD i 0) := by
  rw [List.getD_eq_getElem?_getD, List.getElem?_map, List.getElem?_eq_getElem hi, List.getD_eq_getElem?_getD, List.getElem?_eq_getElem hi]
  rfl
theorem range_getD (pre : List Nat) : (List.range pre.length).map (fun i => pre.getD i 0) = pre := by
  refine List.ext_getElem? fun i => ?_
  rw [List.getElem?_map]
  by_cases h : i < pre.length
  · rw [List.getElem?_range h, List.getElem?_eq_getElem h]
    show some (pre.getD i 0) = _
    rw [List.getD_eq_getElem?_getD, List.getElem?_eq_getElem h]
    rfl
  · rw [List.getElem?_eq_none (by rw [List.length_range]; omega), List.getElem?_eq_none (by omega)]
    rfl
/-- the layer of picked ties -/
theorem lay_pre {ts : List (Int × Int)} {ws : List V} (pre : List Nat) (f : Int) : layerOf (tsN ts pre) (pre.map fun i => ws.getD i .non) f = tsN ts (pre.filter fun i => decide (ws.getD i .non = V.int f)) := by
  have hl : (pre.map fun i => ws.getD i .non).length = (tsN ts pre).length := by unfold tsN; rw [List.length_map, List.length_map]
  rw [lay_tsN hl]
  have e : (tsN ts pre).length = pre.length := by unfold tsN; rw [List.length_map]
  rw [e]
  conv => rhs; rw [← range_getD pre]
  unfold tsN
  rw [List.filter_map, List.map_map]
  have e1 : (List.range pre.length).filter (fun i => decide ((pre.map fun i => ws.getD i .non).getD i .non = V.int f)) = (List.range pre.length).filter ((fun i => decide (ws.getD i .non = V.int f)) ∘ fun i => pre.getD i 0) := List.filter_congr fun i hi => by
    rw [getD_map_pre pre _ _ i (List.mem_range.mp hi)]
    rfl
  rw [e1]
  refine List.map_congr_left fun i hi => ?_
  exact getD_map_pre pre (fun i => ts.getD i (0, 0)) _ i (List.mem_range.mp (List.mem_filter.mp hi).1)
theorem sub_of {l m : List Nat} (hl : l.Nodup) (hm : m.Nodup) (h : ∀ x ∈ l, x ∈ m) : ∃ l', l.Perm l' ∧ l'.Sublist m := by
  refine ⟨m.filter fun x => decide (x ∈ l), (List.perm_ext_iff_of_nodup hl (hm.filter _)).mpr fun x => ?_, List.filter_sublist⟩
  rw [List.mem_filter, decide_eq_true_eq]
  exact ⟨fun z => ⟨h x z, z⟩, fun z => z.2⟩
theorem LayK.pre {ts : List (Int × Int)} {k : Int} {ws : List V} (hL : LayK ts k ws) {pre : List Nat} (nd : pre.Nodup) (hd : ∀ i ∈ pre, i < ts.length) : LayK (tsN ts pre) k (pre.map fun i => ws.getD i .non) := by
  have hwl := hL.len
  refine ⟨by unfold tsN; rw [List.length_map, List.length_map], fun x hx => ?_, fun f => ?_⟩
  · obtain ⟨i, hi, rfl⟩ := List.mem_map.mp hx
    have il : i < ws.length := by have := hd i hi; omega
    have : ws.getD i .non ∈ ws := by
      rw [List.getD_eq_getElem?_getD, List.getElem?_eq_getElem il]
      exact List.getElem_mem il
    exact hL.each _ this
  · rw [lay_pre]
    obtain ⟨l', hp, hs⟩ := sub_of (nd.filter fun i => decide (ws.getD i .non = V.int f)) (List.nodup_range.filter fun i => decide (ws.getD i .non = V.int f)) (m := (List.range ts.length).filter fun i => decide (ws.getD i .non = V.int f)) fun x hx => by
      obtain ⟨h1, h2⟩ := List.mem_filter.mp hx
      exact List.mem_filter.mpr ⟨List.mem_range.mpr (hd x h1), h2⟩
    rw [ringlessF_perm (tsN_perm hp)]
    refine ringlessF_sub (hs.map _) ?_
    have := hL.tree f
    rw [lay_tsN hwl] at this
    exact this
end FF
namespace FF
open PySem PySem.Spec PyProof.Rows L2
variable [LT]
/-! ### none dearer -/
end FF
namespace FF
open PySem PySem.Spec PyProof.Rows L2
variable [LT]
/-! ### the told paper of cheapest ties is let by -/
end FF
namespace FF
open PySem PySem.Spec PyProof.Rows L2
variable [LT]
/-! ### numbers sorted -/
end FF
namespace FF
open PySem PySem.Spec PyProof.Rows L2
variable [LT]
/-! ### ties in another order: the same prices are laid -/
theorem LayK.can {n : Nat} {ts : List (Int × Int)} {k : Int} {ws : List V} (hL : LayK ts k ws) (hk : 0 ≤ k) : canF n (tsN ts (ldN ws (List.range ts.length))) k = true := canF_iff.mpr fun ls hls => by
  rw [← laidT_tsN hL.len]
  exact hL.most hk (hls.up.imp fun h => Int.ne_of_lt h) hls.ne
end FF
namespace FF
open PySem PySem.Spec PyProof.Rows L2
variable [LT]
/-! ### str of data: asked where no repr is under way -/
/-! a def that is right where no repr is under way -/
end FF
namespace FF
open PySem PySem.Spec PyProof.Rows L2
variable [LT]
/-! ### the end of a law that asks str: it starts where no repr is under way -/
section
variable {K : PySem.W.Frag} {cs : List (Addr × Addr)} {a : Addr} {vs : List Value} {ns : List Int} {h : Heap}
open Classical in
/-- all that is tracked at a law's start: the tables, and the script's list unless it stands in the fragment -/
noncomputable def H0G (K : PySem.W.Frag) (cs : List (Addr × Addr)) (a : Addr) (vs : List Value) (ns : List Int) : Hp := fun b =>
  if (∃ p ∈ cs, p.2 = b) then some (.tbl #[]) else if b = a ∧ K.lookup a = none then some (.frz { cls := .type "list", data := .seq vs.toArray } (.lst (ns.map V.int))) else none
end
end FF
namespace FF
open PySem PySem.Spec PyProof.Rows L2
variable [LT]
/-! ### lots of any thing -/
end FF
namespace FF
open PySem PySem.Spec PyProof.Rows L2
variable [LT]
/-! ### data that str shows -/
end FF
namespace FF
open PySem PySem.Spec PyProof.Rows L2
variable [LT]
/-! ### sums of prices; what cheapest_ties tells, as data -/
end FF
namespace FF
open PySem PySem.Spec PyProof.Rows L2
variable [LT]
/-! ### defs that are called within an except suite -/
section
open HotX L2H
end
end FF
namespace FF
open PySem PySem.Spec PyProof.Rows L2
variable [LT]
/-! ### stand-ins -/
end FF
namespace FF
open PySem PySem.Spec PyProof.Rows L2
variable [LT]
/-! ### the numbers without one -/
end FF
namespace FF
open PySem PySem.Spec PyProof.Rows L2
variable [LT]
/-! ### all stand-ins -/
end FF
namespace FF
open PySem PySem.Spec PyProof.Rows L2
variable [LT]
/-! ### a search that goes on and back (what it may still find, how long it goes) -/
end FF
namespace FF
open PySem PySem.Spec PyProof.Rows L2
variable [LT]
/-! ### dict(zip(xs, ys)) of two lists, the keys ints -/
section
variable {X : Cx}
end
end FF
namespace FF
open PySem PySem.Spec PyProof.Rows L2
variable [LT]
/-! ### papers made up: places turned, reasons picked -/
/-! the greedy, piece by piece -/
end FF
namespace FF
open PySem PySem.Spec PyProof.Rows L2
variable [LT]
/-! ### one of a list's things -/
end FF
namespace FF
open PySem PySem.Spec PyProof.Rows L2
variable [LT]
/-! ### tuple(reversed(xs)), xs a tuple -/
section
open RT PySem
variable {prog : Program} {w : World} {A : Around} {E : Value → Shared → Prop} {s : Shared}
end
section
open RT PySem
variable {X : Cx}
end
end FF
namespace FF
open PySem PySem.Spec PyProof.Rows L2
variable [LT]
/-! ### cheaper ties make trees in a reason's lot; the same ties at other prices -/
/-! the ring within the reason's lot -/
/-! three trees on all points -/
end FF
namespace FF
open PySem PySem.Spec PyProof.Rows L2
variable [LT]
/-! ### webs of which all is laid, two points, a ring -/
/-! two points -/
/-! a ring -/
end FF
namespace FF
open PySem PySem.Spec PyProof.Rows L2
variable [LT]
/-! ### what is told of a ring and of two points -/
end FF
namespace FF
open PySem PySem.Spec PyProof.Rows L2
variable [LT]
/-! ### t[i::m] of a tuple -/
section
variable {prog : Program} {w : World} {A : Around} {E : Value → Shared → Prop} {s : Shared}
end
section
variable {X : Cx}
end
end FF
namespace FF
open PySem PySem.Spec PyProof.Rows L2
variable [LT]
/-! ### fractions: thickness, strength, crowd -/
end FF
namespace FF
open PySem PySem.Spec PyProof.Rows L2
variable [LT]
/-! ### a match in the heap -/
end FF
namespace FF
open PySem PySem.Spec PyProof.Rows L2
variable [LT]
/-! ### trees that join all points, and the tie that bridges -/
/-! ### where the ties of a match are -/
end FF
namespace FF
open PySem PySem.Spec PyProof.Rows L2
variable [LT]
/-! ### a match is played -/
end FF
namespace FF
open PySem PySem.Spec PyProof.Rows L2
variable [LT]
/-! ### a match told exactly -/
/-! ### what was cut in turn -/
end FF
namespace FF
open PySem PySem.Spec PyProof.Rows L2
variable [LT]
/-! ### a generator expression with two fors: a turn, the frame, the protocol -/
theorem compTurnG_out (elt t0 i0 t1 i1 : Expr) (scope : Scope) (pos : Pos) (it acc : Value) (env : Env) :
    compTurn (.GeneratorExp elt [⟨t0, i0, [], 0⟩, ⟨t1, i1, [], 0⟩] scope pos) 0 it acc env = (do
      standAt i0.pos
      match ← pyNext it with
      | none => pure (.done .next)
      | some v =>
        letOwnedTupleGo t0 it v
        assign t0 env v
        let x ← eval i1 env
        standAt i1.pos
        let x ← foldedSetIterable i1 env x
        let it1 ← holding [x] (pyIter x)
        let _ ← runOwn (.compStart (.GeneratorExp elt [⟨t0, i0, [], 0⟩, ⟨t1, i1, [], 0⟩] scope pos) 1 it1 acc env) env
        again (.compLoop (.GeneratorExp elt [⟨t0, i0, [], 0⟩, ⟨t1, i1, [], 0⟩] scope pos) 0 it acc env)) := by rfl
theorem compTurnG_in (elt t0 i0 t1 i1 : Expr) (scope : Scope) (pos : Pos) (it acc : Value) (env : Env) :
    compTurn (.GeneratorExp elt [⟨t0, i0, [], 0⟩, ⟨t1, i1, [], 0⟩] scope pos) 1 it acc env = (do
      standAt i1.pos
      match ← pyNext it with
      | none => pure (.done .next)
      | some v =>
        letOwnedTupleGo t1 it v
        assign t1 env v
        (do let v ← eval elt env; standAt elt.pos; let _ ← yieldOut env v)
        again (.compLoop (.GeneratorExp elt [⟨t0, i0, [], 0⟩, ⟨t1, i1, [], 0⟩] scope pos) 1 it acc env)) := by rfl
/-- the same context under another stack of calls -/
theorem Inv.around {Z : Cx} {A : Around} {pins : List (Addr × Obj)} {σ : L2.St} {H : Hp} {s : Shared} (I : L2.Inv Z pins σ H s) (h1 : A.handled = none) (h2 : A.frames = some Z.stack) : L2.Inv { Z with A := A } pins σ H s :=
  ⟨⟨I.ok.mod, I.ok.kind, I.ok.glob, I.ok.blt, I.ok.above, I.ok.inj, I.ok.has, I.ok.cab, fun _ => h1, h2, I.ok.stk, I.ok.exf, I.ok.bs, I.ok.bsz, I.ok.noex, I.ok.exfs, I.ok.funs, I.ok.frf⟩, I.os, I.bare, I.base, I.loc, I.cell, I.free, I.freeC, I.pin, I.hok, I.len⟩
theorem over2_frames {A : Around} {elt t0 i0 t1 i1 : Expr} {scope : Scope} {pos p : Pos} {it it1 : Value} {env : Env} {k : Result → Sem Fin} {l : List Value} {S : List Env} (h : A.frames = some S) :
    (A.over (.compLoop (.GeneratorExp elt [⟨t0, i0, [], 0⟩, ⟨t1, i1, [], 0⟩] scope pos) 1 it1 .none env) [.ret k none false l (.compLoop (.GeneratorExp elt [⟨t0, i0, [], 0⟩, ⟨t1, i1, [], 0⟩] scope pos) 0 it .none env) p []]).frames = some (env :: S) := by
  unfold Around.over
  simp only [h]
  rfl
theorem over2_hd {A : Around} {elt t0 i0 t1 i1 : Expr} {scope : Scope} {pos p : Pos} {it it1 : Value} {env : Env} {k : Result → Sem Fin} {l : List Value} (h : A.handled = none) :
    (A.over (.compLoop (.GeneratorExp elt [⟨t0, i0, [], 0⟩, ⟨t1, i1, [], 0⟩] scope pos) 1 it1 .none env) [.ret k none false l (.compLoop (.GeneratorExp elt [⟨t0, i0, [], 0⟩, ⟨t1, i1, [], 0⟩] scope pos) 0 it .none env) p []]).handled = none := by
  unfold Around.over
  simp only [h]
  rfl
theorem over2_room {A : Around} {elt t0 i0 t1 i1 : Expr} {scope : Scope} {pos p : Pos} {it it1 : Value} {env : Env} {k : Result → Sem Fin} {l : List Value} {j : Nat} (r : Room (j + 1) A) :
    Room j (A.over (.compLoop (.GeneratorExp elt [⟨t0, i0, [], 0⟩, ⟨t1, i1, [], 0⟩] scope pos) 1 it1 .none env) [.ret k none false l (.compLoop (.GeneratorExp elt [⟨t0, i0, [], 0⟩, ⟨t1, i1, [], 0⟩] scope pos) 0 it .none env) p []]) :=
  ⟨over2_hd r.hd, by have := r.dp; show A.depth + (0 + 1 + 0) + 0 + 3 * j + 5 < _; omega, by have := r.un; show A.units + (0 + 3 + 0) + 0 + 16 * j + 200 < _; omega⟩
section
variable {α : Type}
structure GyD (α : Type) where
  Z : Cx
  elt : Expr
  tg : Expr
  iter : Expr
  tg1 : Expr
  iter1 : Expr
  scope : Scope
  pos : Pos
  it : Addr
  fp : List Addr
  tn : Nat → Heap → Prop
  J : It
  prot : List Addr
  Acc : α → Heap → Prop
  W : Nat → Nat → α → Hp → Prop
  Yl : α → V → Hp → (α → Hp → Prop) → Prop
  Dn : α → Hp → Prop
  σ0 : L2.St
  vs : List Nat
  vs1 : List Nat
abbrev GyD.expr (D : GyD α) : Expr := .GeneratorExp D.elt [⟨D.tg, D.iter, [], 0⟩, ⟨D.tg1, D.iter1, [], 0⟩] D.scope D.pos
abbrev GyD.loop (D : GyD α) : Code := .compLoop D.expr 0 (.ref D.it) .none D.Z.env
abbrev GyD.begin (D : GyD α) : Code := .compStart D.expr 0 (.ref D.it) .none D.Z.env
abbrev GyD.loop1 (D : GyD α) (it1 : Addr) : Code := .compLoop D.expr 1 (.ref it1) .none D.Z.env
def GyD.Inv (D : GyD α) (fx : List Addr) (σ : L2.St) (pins : List (Addr × Obj)) (H : Hp) (s : Shared) : Prop :=
  pins.map (·.1) = D.prot ∧ L2.Inv D.Z pins σ H s ∧ ∀ b ∈ fx, FpOk D.Z pins H b
def GyD.Y (D : GyD α) : Protocol := fun _ s₀ v s kap => ∃ (fx : List Addr) (tx : Heap → Prop) (σ : L2.St) (a : α) (pins : List (Addr × Obj)) (H : Hp) (x : V) (Nx : α → Hp → Prop),
  RelV x v ∧ s₀.gens.size ≤ s.gens.size ∧ D.Acc a s₀.heap ∧ (∀ p ∈ pins, s₀.heap.get? p.1 = some p.2) ∧ D.Inv fx σ pins H s ∧ (∀ h h', tx h → (∀ b ∈ fx, ∀ o, h.get? b = some o → h'.get? b = some o) → tx h') ∧ tx s.heap ∧ D.Yl a x H Nx ∧
  ∀ (s' : Shared) (pins' : List (Addr × Obj)) (H' : Hp) (a' : α), D.Inv fx σ pins' H' s' → tx s'.heap → D.Acc a' s'.heap → Nx a' H' → kap (.send .none) s'
def GyD.P (D : GyD α) : Nat → Shared → Shared → Prop := fun _ s₀ s => ∃ (a : α) (pins : List (Addr × Obj)) (H : Hp),
  D.Acc a s₀.heap ∧ (∀ p ∈ pins, s₀.heap.get? p.1 = some p.2) ∧ D.Inv [] D.σ0 pins H s ∧ D.Dn a H
abbrev GyD.R (D : GyD α) : GenEnd := fun n s₀ r s => r = .ok .next ∧ D.P n s₀ s
/-- what an inner turn asks -/
def GyIn (D : GyD α) (g1 : TG) (te : TE) (i : Nat) (σ1 : L2.St) (J1 : It) (W1 : Nat → Nat → α → Hp → Prop) : Prop := ∀ j k a H, W1 j k a H → (J1.stop j H ∧ ∃ m', m' ≤ k ∧ D.W (i + 1) m' a H) ∨ (J1.go j H ∧ ∃ Nx1 : α → Hp → Prop, (∀ a' H', Nx1 a' H' → ∃ k', k' < k ∧ W1 (j + 1) k' a' H') ∧
  ∀ x H1, J1.yld j H x H1 → g1 x σ1 H1 fun σ3 H3 => wipe σ3 D.vs1 = σ1 ∧ te σ3 H3 fun y H4 => D.Yl a y H4 Nx1)
structure GyD.Ok (D : GyD α) (k : Nat) (g : TG) (wi1 : TI) (g1 : TG) (te : TE) : Prop where
  calm : D.Z.calm = true
  xe : D.Z.xe = fun _ _ => False
  co : D.Z.env.scope.isCoroutine = false
  turn : Turn D.Z.prog D.Z.w D.Z.K D.tg D.J D.fp D.it D.tn
  pg : PG D.Z D.tg g
  pi1 : PI D.Z D.tg1 D.iter1 wi1
  hs1 : ∀ env x, foldedSetIterable D.iter1 env x = pure x
  pg1 : ∀ A : Around, PG { D.Z with A := A } D.tg1 g1
  pe : ∀ A : Around, Room k A → PE { D.Z with A := A } D.elt te
  vsub : ∀ i ∈ D.vs1, i ∈ D.vs
  step : ∀ i m a H, D.W i m a H → (D.J.stop i H ∧ D.Dn a H) ∨ (D.J.go i H ∧ ∀ x H1, D.J.yld i H x H1 → g x D.σ0 H1 fun σ2 H2 => wipe σ2 D.vs = D.σ0 ∧ wi1 σ2 H2 fun J1 H4 =>
    ∃ W1 : Nat → Nat → α → Hp → Prop, (∃ m1, m1 < m ∧ W1 0 m1 a H4) ∧ GyIn D g1 te i (wipe σ2 D.vs1) J1 W1)
theorem fpok_less {Z : Cx} {pins pl : List (Addr × Obj)} {H : Hp} {b : Addr} (h : FpOk Z (pins ++ pl) H b) : FpOk Z pins H b :=
  ⟨h.1, h.2.1, h.2.2.1, h.2.2.2.1, h.2.2.2.2.1, fun p hp => h.2.2.2.2.2 p (by rw [← List.append_assoc]; exact List.mem_append_left _ hp)⟩
theorem fpok_more {Z : Cx} {pins pl : List (Addr × Obj)} {H : Hp} {b : Addr} (h : FpOk Z pins H b) (hn : ∀ p ∈ pl, p.1 ≠ b) : FpOk Z (pins ++ pl) H b :=
  ⟨h.1, h.2.1, h.2.2.1, h.2.2.2.1, h.2.2.2.2.1, fun p hp => by
    rw [← List.append_assoc] at hp
    exact (List.mem_append.mp hp).elim (h.2.2.2.2.2 p) (hn p)⟩
theorem gy_in {D : GyD α} {k0 : Nat} {g : TG} {wi1 : TI} {g1 : TG} {te : TE} (ok : D.Ok k0 g wi1 g1 te) {A : Around} {S : List Env} (hA : A.over D.loop [] = D.Z.A) (hS : A.frames = some S) (hZ : D.Z.stack = D.Z.env :: S) (room : Room (k0 + 1) A)
    {i m : Nat} {σ1 : L2.St} {J1 : It} {W1 : Nat → Nat → α → Hp → Prop} {fp1 : List Addr} {it1 : Addr} {tn1 : Nat → Heap → Prop} {kk : Result → Sem Fin} {l : List Value} {p : Pos}
    (T1 : Turn D.Z.prog D.Z.w D.Z.K D.tg1 J1 fp1 it1 tn1) (hdis : ∀ b ∈ fp1, b ∉ D.fp) (hstep : GyIn D g1 te i σ1 J1 W1)
    (after : ∀ (k n m' : Nat) (s₀ s : Shared) (pins : List (Addr × Obj)) (H : Hp) (a : α), k < m → k < n → m' ≤ k → s₀.gens.size ≤ s.gens.size → D.Inv D.fp σ1 pins H s → D.tn (i + 1) s.heap → D.Acc a s₀.heap → (∀ p ∈ pins, s₀.heap.get? p.1 = some p.2) → D.W (i + 1) m' a H →
      Seg (model D.Z.prog D.Z.w) A D.R D.Y n s₀ D.loop (kk (.ok .next)) [] s) :
    ∀ (k j n : Nat) (s₀ s : Shared) (pins : List (Addr × Obj)) (H : Hp) (a : α), k < m → k < n → s₀.gens.size ≤ s.gens.size → D.Inv (D.fp ++ fp1) σ1 pins H s → D.tn (i + 1) s.heap → tn1 j s.heap → D.Acc a s₀.heap → (∀ p ∈ pins, s₀.heap.get? p.1 = some p.2) → W1 j k a H →
      Seg (model D.Z.prog D.Z.w) A D.R D.Y n s₀ (D.loop1 it1) ((model D.Z.prog D.Z.w).den (D.loop1 it1)) [.ret kk none false l D.loop p []] s := by
  intro k
  induction k using Nat.strongRecOn with
  | _ k ih =>
    intro j n s₀ s pins H a hkm hkn hz GI htn htn1 hacc hp0 hw
    obtain ⟨hpr, I0, hf⟩ := GI
    have T := ok.turn
    obtain ⟨A1, eA1⟩ : ∃ A1, A1 = A.over (D.loop1 it1) [.ret kk none false l D.loop p []] := ⟨_, rfl⟩
    have hA1h : A1.handled = none := by rw [eA1]; exact over2_hd room.hd
    have hA1f : A1.frames = some D.Z.stack := by rw [eA1, hZ]; exact over2_frames hS
    have hA1r : Room k0 A1 := by rw [eA1]; exact over2_room room
    have I : L2.Inv { D.Z with A := A1 } pins σ1 H s := Inv.around I0 hA1h hA1f
    have hf0 : ∀ b ∈ D.fp, FpOk { D.Z with A := A1 } pins H b := fun b hb => hf b (List.mem_append_left _ hb)
    have hf1 : ∀ b ∈ fp1, FpOk { D.Z with A := A1 } pins H b := fun b hb => hf b (List.mem_append_right _ hb)
    have Ip := I.pinned hf0 (T.obj _ _ htn)
    have hf1p : ∀ b ∈ fp1, FpOk { D.Z with A := A1 } (pins ++ pinsAt D.fp s.heap) H b := fun b hb => fpok_more (hf1 b hb) fun q hq e => hdis b hb (by rw [← e]; exact (of_pinsAt hq).1)
    have bk : ∀ {σ : L2.St} {H' : Hp} {s' : Shared}, L2.Inv { D.Z with A := A1 } pins σ H' s' → L2.Inv D.Z pins σ H' s' := fun {σ H' s'} J => Inv.around (Z := { D.Z with A := A1 }) (A := D.Z.A) J (I0.ok.hd ok.calm) I0.ok.frames
    show Seg _ A _ _ _ s₀ _ ((compTurn D.expr 1 (.ref it1) .none D.Z.env).onRaise _) _ s
    rw [compTurnG_in, Sem.onRaise_eq_wrap]
    refine seg_bind_wrap (wpAny_standAt ?_)
    rcases hstep j k a H hw with ⟨stop, m', hm', hw'⟩ | ⟨go, Nx1, hNx, st⟩
    · refine seg_bind_wrap ?_
      rw [← eA1]
      refine GenW.wpAny_gsz hz (thnF (T1.done { D.Z with A := A1 } rfl rfl rfl ok.calm j _ s σ1 H (fun _ _ => False) Ip hf1p htn1 stop) fun r t ⟨hr, J⟩ z0 => ?_)
      subst hr
      have pin' : ∀ b ∈ D.fp, ∀ o, s.heap.get? b = some o → t.heap.get? b = some o := fun b hb o e => (J.pin (b, o) (List.mem_append_right _ (List.mem_append_right _ (mem_pinsAt hb e)))).1
      exact seg_leaf (.ok .next) (after k n m' s₀ t pins H a hkm hkn hm' z0 ⟨hpr, bk J.unpinned, fun b hb => hf b (List.mem_append_left _ hb)⟩ (T.keep _ _ _ htn pin') hacc hp0 hw')
    · refine seg_bind_wrap ?_
      rw [← eA1]
      refine GenW.wpAny_gsz hz (thnF (T1.item { D.Z with A := A1 } rfl rfl rfl ok.calm j _ s σ1 H (fun _ _ => False) Ip hf1p htn1 go) fun r t ⟨u, hr, h1⟩ z0 => ?_)
      subst hr
      refine seg_bind_wrap ?_
      rw [← eA1]
      refine GenW.wpAny_gsz z0 (thnF h1 fun _ t1 ⟨x, H1, I1, r1, y1, tn1', n1⟩ z1 => ?_)
      have f1 : ∀ b ∈ fp1, FpOk { D.Z with A := A1 } (pins ++ pinsAt D.fp s.heap) H1 b := fun b hb => ⟨n1 b hb, (hf1p b hb).2⟩
      have I1p := I1.pinned f1 (T1.obj _ _ tn1')
      have hpg := (ok.pg1 A1).run _ t1 σ1 H1 x u _ I1p r1 (st x H1 y1)
      rw [show ({ D.Z with A := A1 } : Cx).xe = fun _ _ => False from ok.xe] at hpg
      refine seg_bind_wrap ?_
      rw [← eA1]
      refine GenW.wpAny_gsz z1 (thnF hpg fun _ t2 ⟨σ3, H2, I2, w2, q2⟩ z2 => ?_)
      have hy : ∀ v, yieldOut D.Z.env v = yieldValue v := fun v => by simp only [yieldOut, ok.co, Bool.false_eq_true, if_false]
      simp only [hy]
      rw [Sem.bind_eq_wrap', Sem.bind_eq_wrap', Sem.wrap_wrap, Sem.wrap_wrap]
      have hpe := (ok.pe A1 hA1r).run _ t2 σ3 H2 _ I2 q2
      rw [show ({ D.Z with A := A1 } : Cx).xe = fun _ _ => False from ok.xe] at hpe
      refine seg_wrap ?_
      rw [← eA1]
      refine GenW.wpAny_gsz z2 (thnF hpe fun y t4 ⟨z, H4, I4, r4, q4⟩ z4 => ?_)
      obtain ⟨n', rfl⟩ : ∃ n', n = n' + 1 := ⟨n - 1, by omega⟩
      have pin0 : ∀ b ∈ D.fp, ∀ o, s.heap.get? b = some o → t4.heap.get? b = some o ∧ H4 b = none := fun b hb o e =>
        let z := I4.pin (b, o) (List.mem_append_right _ (List.mem_append_left _ (List.mem_append_right _ (mem_pinsAt hb e))))
        ⟨z.1, z.2.1⟩
      have pin1 : ∀ b ∈ fp1, ∀ o, t1.heap.get? b = some o → t4.heap.get? b = some o ∧ H4 b = none := fun b hb o e =>
        let z := I4.pin (b, o) (List.mem_append_right _ (List.mem_append_right _ (mem_pinsAt hb e)))
        ⟨z.1, z.2.1⟩
      have tnA : D.tn (i + 1) t4.heap := T.keep _ _ _ htn fun b hb o e => (pin0 b hb o e).1
      have tnB : tn1 (j + 1) t4.heap := T1.keep _ _ _ tn1' fun b hb o e => (pin1 b hb o e).1
      have I5 : L2.Inv D.Z pins σ1 H4 t4 := bk (I4.unpinned.unpinned.weak (by rw [← w2, wipe_length]) fun j v e => by rw [← w2] at e; exact (wipe_some e).1)
      have f5 : ∀ b ∈ D.fp ++ fp1, FpOk D.Z pins H4 b := fun b hb => by
        rcases List.mem_append.mp hb with hb | hb
        · obtain ⟨o, e, _⟩ := T.obj _ _ htn b hb
          exact ⟨(pin0 b hb o e).2, (hf b (List.mem_append_left _ hb)).2⟩
        · obtain ⟨o, e, _⟩ := T1.obj _ _ tn1' b hb
          exact ⟨(pin1 b hb o e).2, (hf b (List.mem_append_right _ hb)).2⟩
      refine seg_at (seg_yield rfl rfl rfl ⟨D.fp ++ fp1, fun h => D.tn (i + 1) h ∧ tn1 (j + 1) h, σ1, a, pins, H4, z, Nx1, r4, z4, hacc, hp0, ⟨hpr, I5, f5⟩, fun h h' q kp => ⟨T.keep _ _ _ q.1 fun b hb => kp b (List.mem_append_left _ hb), T1.keep _ _ _ q.2 fun b hb => kp b (List.mem_append_right _ hb)⟩, ⟨tnA, tnB⟩, q4, fun t' pins' H' a' G' tn' hacc' nx => ?_⟩)
      obtain ⟨k', hk', w'⟩ := hNx a' H' nx
      exact seg_again rfl (ih k' hk' (j + 1) n' t' t' pins' H' a' (by omega) (by omega) (Nat.le_refl _) G' tn'.1 tn'.2 hacc' (fun p hp => (G'.2.1.pin p (List.mem_append_right _ hp)).1) w')
end
end FF
namespace FF
open PySem PySem.Spec PyProof.Rows L2
variable [LT]
section
variable {α : Type}
theorem gy_start1 {D : GyD α} {A : Around} {it1 : Addr} {n : Nat} {s₀ s : Shared} {fs : List Frame} (hself : ∀ {A' : Around} {Q : Value → Shared → Prop} {E : Value → Shared → Prop}, Q (.ref it1) s → wpAny (model D.Z.prog D.Z.w) A' (pyIter (.ref it1)) Q E s)
    (loop1 : Seg (model D.Z.prog D.Z.w) A D.R D.Y n s₀ (D.loop1 it1) ((model D.Z.prog D.Z.w).den (D.loop1 it1)) fs s) :
    Seg (model D.Z.prog D.Z.w) A D.R D.Y n s₀ (.compStart D.expr 1 (.ref it1) .none D.Z.env) ((model D.Z.prog D.Z.w).den (.compStart D.expr 1 (.ref it1) .none D.Z.env)) fs s := by
  show Seg _ A _ _ _ s₀ _ ((compStart D.expr 1 (.ref it1) .none D.Z.env).onRaise _) _ s
  unfold compStart
  rw [Sem.onRaise_eq_wrap]
  show Seg _ A _ _ _ s₀ _ ((ask >>= _).wrap _ _ _ _) _ s
  refine seg_bind_wrap (wpAny_askSetting ?_)
  split
  · exact seg_again rfl loop1
  · first
      | exact seg_bind_wrap (wpAny_rule (seg_bind_wrap (wpAny_standAt (seg_bind_wrap (hself (seg_again rfl loop1))))))
      | (refine seg_bind_wrap (wpAny_rule ?_); show Seg _ A _ _ _ s₀ _ ((standAt D.iter1.pos >>= _).wrap _ _ _ _) _ s; exact seg_bind_wrap (wpAny_standAt (seg_bind_wrap (hself (seg_again rfl loop1)))))
theorem gy_seg {D : GyD α} {k0 : Nat} {g : TG} {wi1 : TI} {g1 : TG} {te : TE} (ok : D.Ok k0 g wi1 g1 te) {A : Around} {S : List Env} (hA : A.over D.loop [] = D.Z.A) (hS : A.frames = some S) (hZ : D.Z.stack = D.Z.env :: S) (room : Room (k0 + 1) A) :
    ∀ (m i n : Nat) (s₀ s : Shared) (pins : List (Addr × Obj)) (H : Hp) (a : α), m < n → s₀.gens.size ≤ s.gens.size → D.Inv D.fp D.σ0 pins H s → D.tn i s.heap → D.Acc a s₀.heap → (∀ p ∈ pins, s₀.heap.get? p.1 = some p.2) → D.W i m a H →
      Seg (model D.Z.prog D.Z.w) A D.R D.Y n s₀ D.loop ((model D.Z.prog D.Z.w).den D.loop) [] s := by
  intro m
  induction m using Nat.strongRecOn with
  | _ m ih =>
    intro i n s₀ s pins H a hmn hz GI ht hacc hp0 hw
    obtain ⟨hpr, I, hf⟩ := GI
    have T := ok.turn
    show Seg _ A _ _ _ s₀ _ ((compTurn D.expr 0 (.ref D.it) .none D.Z.env).onRaise (leaving D.Z.env)) [] s
    rw [compTurnG_out, Sem.onRaise_eq_wrap]
    refine seg_bind_wrap (wpAny_standAt ?_)
    rcases ok.step i m a H hw with ⟨stop, dn⟩ | ⟨go, st⟩
    · refine seg_bind_wrap ?_
      rw [hA]
      refine thnF (T.done D.Z rfl rfl rfl ok.calm i pins s D.σ0 H (fun _ _ => False) I hf ht stop) fun r t ⟨hr, J⟩ => ?_
      subst hr
      exact seg_end (.ok .next) ⟨rfl, a, pins, H, hacc, hp0, ⟨hpr, J, fun _ z => nomatch z⟩, dn⟩
    · refine seg_bind_wrap ?_
      rw [hA]
      refine GenW.wpAny_gsz hz (thnF (T.item D.Z rfl rfl rfl ok.calm i pins s D.σ0 H (fun _ _ => False) I hf ht go) fun r t ⟨u, hr, h1⟩ z0 => ?_)
      subst hr
      refine seg_bind_wrap ?_
      rw [hA]
      refine GenW.wpAny_gsz z0 (thnF h1 fun _ t1 ⟨x, H1, I1, r1, y1, tn1, n1⟩ z1 => ?_)
      have f1 : ∀ b ∈ D.fp, FpOk D.Z pins H1 b := fun b hb => ⟨n1 b hb, (hf b hb).2⟩
      have I1p := I1.pinned f1 (T.obj _ _ tn1)
      have hpg := ok.pg.run _ t1 D.σ0 H1 x u _ I1p r1 (st x H1 y1)
      rw [ok.xe] at hpg
      refine seg_bind_wrap ?_
      rw [hA]
      refine GenW.wpAny_gsz z1 (thnF hpg fun _ t2 ⟨σ2, H2, I2, w2, q2⟩ z2 => ?_)
      have hpi := ok.pi1.run _ t2 σ2 H2 _ I2 q2
      rw [ok.xe] at hpi
      refine seg_bind_wrap ?_
      rw [hA]
      refine GenW.wpAny_gsz z2 (thnF hpi fun v t3 hv z3 => ?_)
      refine seg_bind_wrap (wpAny_standAt ?_)
      refine seg_bind_wrap (wpAny_of_eq (ok.hs1 _ _) ?_)
      refine seg_bind_wrap (wpAny_holding ?_)
      rw [hA]
      refine GenW.wpAny_gsz z3 (thnF hv fun itv t4 ⟨it1, fp1, tn1', J1, H4, e4, I4, T1, st4, f4, q4⟩ z4 => ?_)
      subst e4
      obtain ⟨W1, ⟨m1, hm1, w1⟩, hstep⟩ := q4
      have pin' : ∀ b ∈ D.fp, ∀ o, t1.heap.get? b = some o → t4.heap.get? b = some o ∧ H4 b = none := fun b hb o e =>
        let z := I4.pin (b, o) (List.mem_append_right _ (List.mem_append_right _ (mem_pinsAt hb e)))
        ⟨z.1, z.2.1⟩
      have tnA : D.tn (i + 1) t4.heap := T.keep _ _ _ tn1 fun b hb o e => (pin' b hb o e).1
      have hdis : ∀ b ∈ fp1, b ∉ D.fp := fun b hb hb2 => by
        obtain ⟨o, e, _⟩ := T.obj _ _ tn1 b hb2
        exact (f4 b hb).2.2.2.2.2 (b, o) (List.mem_append_right _ (List.mem_append_right _ (mem_pinsAt hb2 e))) rfl
      have G5 : D.Inv (D.fp ++ fp1) (wipe σ2 D.vs1) pins H4 t4 := ⟨hpr, I4.unpinned.weak (wipe_length _ _) fun j v e => (wipe_some e).1, fun b hb => by
        rcases List.mem_append.mp hb with hb | hb
        · obtain ⟨o, e, _⟩ := T.obj _ _ tn1 b hb
          exact ⟨(pin' b hb o e).2, (hf b hb).2⟩
        · exact fpok_less (f4 b hb)⟩
      have hl : D.σ0.length = (wipe σ2 D.vs1).length := by rw [← w2, wipe_length, wipe_length]
      have hk : ∀ (j : Nat) v, D.σ0[j]? = some (some v) → (wipe σ2 D.vs1)[j]? = some (some v) := fun j v e => by
        rw [← w2] at e
        obtain ⟨e1, e2⟩ := wipe_some e
        rw [wipe_out fun z => e2 (ok.vsub j z)]
        exact e1
      refine seg_call (c' := .compStart D.expr 1 (.ref it1) .none D.Z.env) (h := none) (g := false) fun p => ?_
      refine gy_start1 (fun {A' Q E} => T1.self A' 0 t4 Q E st4) ?_
      refine gy_in ok hA hS hZ room (m := m) (i := i) (p := p) T1 hdis hstep (fun k n m' s₀ s pins H a hkm hkn hm' hz G tn' hacc hp hw => ?_) m1 0 n s₀ t4 pins H4 a hm1 (by omega) z4 G5 tnA st4 hacc hp0 w1
      exact seg_again rfl (ih m' (by omega) (i + 1) n s₀ s pins H a (by omega) hz ⟨G.1, G.2.1.weak hl hk, G.2.2⟩ tn' hacc hp hw)
theorem gy_begin {D : GyD α} {k0 : Nat} {g : TG} {wi1 : TI} {g1 : TG} {te : TE} (ok : D.Ok k0 g wi1 g1 te) {A : Around} {S : List Env} (hA : A.over D.loop [] = D.Z.A) (hS : A.frames = some S) (hZ : D.Z.stack = D.Z.env :: S) (room : Room (k0 + 1) A) {m n : Nat} {s : Shared} {pins : List (Addr × Obj)} {H : Hp} {a : α}
    (hmn : m < n) (G : D.Inv D.fp D.σ0 pins H s) (ht : D.tn 0 s.heap) (hacc : D.Acc a s.heap) (hw : D.W 0 m a H) :
    Seg (model D.Z.prog D.Z.w) A D.R D.Y n s D.begin ((model D.Z.prog D.Z.w).den D.begin) [] s := by
  have loop := gy_seg ok hA hS hZ room m 0 n s s pins H a hmn (Nat.le_refl _) G ht hacc (fun p hp => (G.2.1.pin p (List.mem_append_right _ hp)).1) hw
  show Seg _ A _ _ _ s _ ((compStart D.expr 0 (.ref D.it) .none D.Z.env).onRaise (leaving D.Z.env)) [] s
  unfold compStart
  rw [Sem.onRaise_eq_wrap]
  show Seg _ A _ _ _ s _ ((ask >>= _).wrap _ _ _ _) [] s
  refine seg_bind_wrap (wpAny_askSetting ?_)
  split
  · exact seg_again rfl loop
  · first
      | exact seg_bind_wrap (wpAny_rule (seg_bind_wrap (wpAny_standAt (seg_bind_wrap (ok.turn.self _ 0 s _ _ ht (seg_again rfl loop))))))
      | (refine seg_bind_wrap (wpAny_rule ?_); show Seg _ A _ _ _ s _ ((standAt D.iter.pos >>= _).wrap _ _ _ _) [] s; exact seg_bind_wrap (wpAny_standAt (seg_bind_wrap (ok.turn.self _ 0 s _ _ ht (seg_again rfl loop)))))
end
end FF
namespace FF
open PySem PySem.Spec PyProof.Rows L2
variable [LT]
section
variable {α : Type}
theorem GyD.Inv.setGen {D : GyD α} {fx : List Addr} {σ : L2.St} {pins : List (Addr × Obj)} {H : Hp} {s : Shared} (G : D.Inv fx σ pins H s) {g : Nat} {x : GenState} (hx : x.bare = true) : D.Inv fx σ pins H (s.setGen g x) :=
  ⟨G.1, Inv.gens G.2.1 (bare_set G.2.1.bare hx), G.2.2⟩
/-- the generator g at ga sleeps; n: more than it will hand out; a: what the consumer has -/
structure GyD.Live (D : GyD α) (A : Around) (ga : Addr) (g n : Nat) (a : α) (s : Shared) : Prop where
  mem : ga ∈ D.prot
  isg : s.heap.IsGen ga g
  acc : D.Acc a s.heap
  inv : ∃ fx σ pins H, D.Inv fx σ pins H s
  go : ∃ gs, s.gens[g]? = some gs ∧ gs.Goes (model D.Z.prog D.Z.w) A.in1 D.R D.Y n (.send .none) (s.setGen g .running)
/-- it has handed out x, the heap is H; where the consumer comes to Nx it lives on -/
structure GyD.Told (D : GyD α) (A : Around) (ga : Addr) (g n : Nat) (a : α) (x : V) (H : Hp) (Nx : α → Hp → Prop) (s : Shared) : Prop where
  acc : D.Acc a s.heap
  yl : D.Yl a x H Nx
  isg : s.heap.IsGen ga g
  on : ∃ (fx : List Addr) (tx : Heap → Prop) (σ : L2.St) (pins : List (Addr × Obj)), D.Inv fx σ pins H s ∧ (∀ h h', tx h → (∀ b ∈ fx, ∀ o, h.get? b = some o → h'.get? b = some o) → tx h') ∧ tx s.heap ∧
    ∀ (s' : Shared) (pins' : List (Addr × Obj)) (H' : Hp) (a' : α), s'.gens = s.gens → s'.heap.IsGen ga g → D.Inv fx σ pins' H' s' → tx s'.heap → D.Acc a' s'.heap → Nx a' H' → ∃ n', n = n' + 1 ∧ D.Live A ga g n' a' s'
theorem pins_sameY {D : GyD α} {fx : List Addr} {σ : L2.St} {pins : List (Addr × Obj)} {H : Hp} {s s₀ : Shared} (G : D.Inv fx σ pins H s) (h0 : ∀ p ∈ pins, s₀.heap.get? p.1 = some p.2) {b : Addr} (hb : b ∈ D.prot) : s.heap.get? b = s₀.heap.get? b := by
  rw [← G.1] at hb
  obtain ⟨p, hp, e⟩ := List.mem_map.mp hb
  rw [← e, (G.2.1.pin p (List.mem_append_right _ hp)).1, h0 p hp]
theorem gy_nextA {D : GyD α} {A : Around} {ga : Addr} {g n : Nat} {a : α} {s : Shared} {Q : Option Value → Shared → Prop} {E : Value → Shared → Prop} (calm : A.handled = none) (room : A.depth < recursionLimit)
    (hfun : ∀ a a' h, D.Acc a h → D.Acc a' h → a = a') (hpr : ∀ a h h', (∀ b ∈ D.prot, h'.get? b = h.get? b) → D.Acc a h → D.Acc a h') (L : D.Live A ga g n a s)
    (some_ : ∀ v x H Nx t, RelV x v → D.Told A ga g n a x H Nx t → Q (some v) t)
    (none_ : ∀ pins H t, D.Inv [] D.σ0 pins H t → D.Acc a t.heap → D.Dn a H → Q none t) :
    wpAny (model D.Z.prog D.Z.w) A (pyNext (.ref ga)) Q E s := by
  obtain ⟨_, _, pins0, H0, G0⟩ := L.inv
  obtain ⟨gs, hgs, hgo⟩ := L.go
  refine wpAny_pyNext_genexpQ (P := D.P) (Y := D.Y) (n := n) calm G0.2.1.nolimit room L.isg hgs hgo (fun v t gs' hb hv => ?_) (fun t hp h' hk => ?_)
  · obtain ⟨fx, tx, σ, a1, pins, H, x, Nx, rx, hz, hacc, h0, G, hst, htn, hyl, kap⟩ := hv
    have ea : a1 = a := hfun _ _ _ hacc L.acc
    subst ea
    have same : ∀ b ∈ D.prot, t.heap.get? b = s.heap.get? b := fun b hb' => pins_sameY G h0 hb'
    have isg : t.heap.IsGen ga g := by
      obtain ⟨o, nm, qn, ho, r⟩ := L.isg
      exact ⟨o, nm, qn, (same ga L.mem).trans ho, r⟩
    refine some_ v x H Nx _ rx ⟨hpr _ _ _ same hacc, hyl, isg, fx, tx, σ, pins, G.setGen hb, hst, htn, fun s' pins' H' a' hge isg' G' htn' hacc' nx => ?_⟩
    have kp := kap (s'.setGen g .running) pins' H' a' (G'.setGen rfl) htn' hacc' nx
    cases n with
    | zero => exact kp.elim
    | succ n' =>
    refine ⟨n', rfl, L.mem, isg', hacc', ⟨_, _, _, _, G'⟩, gs', ?_, kp⟩
    rw [hge]
    · have hlt : g < t.gens.size := by
        have h1 : g < s.gens.size := (Array.getElem?_eq_some_iff.mp hgs).1
        have h2 : (s.setGen g .running).gens.size = s.gens.size := by simp [Shared.setGen]
        omega
      simp [Shared.setGen, hlt]
  · obtain ⟨a1, pins, H, hacc, h0, G, hdn⟩ := hp
    have ea : a1 = a := hfun _ _ _ hacc L.acc
    subst ea
    refine none_ pins H _ ⟨G.1, Inv.gens (G := (t.setGen g .finished).gens) (G.2.1.kept (t' := t.toks) hk) (bare_set G.2.1.bare rfl), G.2.2⟩ (hpr _ _ _ (fun b hb => ?_) hacc) hdn
    have hb2 := hb
    rw [← G.1] at hb2
    obtain ⟨p, hp, e⟩ := List.mem_map.mp hb2
    have h1 := h0 p hp
    have h2 := (G.2.1.pin p (List.mem_append_right _ hp)).1
    rw [← e]
    exact (hk _ _ h2).trans h1.symm
/-- the consumer's own object at S is written anew -/
structure GyD.Own (D : GyD α) (ga S : Addr) : Prop where
  prot : D.prot = [ga, S]
  ne : S ≠ ga
  young : D.Z.s_0.heap.objs.size ≤ S
  loc : S ≠ D.Z.env.locals
  cel : ∀ x c, D.Z.env.cells.lookup x = some c → c ≠ S
  pn : D.Z.pn = []
theorem GyD.Told.write {D : GyD α} {A : Around} {ga S : Addr} {g n : Nat} {a a' : α} {x : V} {H : Hp} {Nx : α → Hp → Prop} {s : Shared} (T : D.Told A ga g n a x H Nx s)
    (ow : D.Own ga S) {h' : Heap} {o : Obj} (tk : Nat) (hk : ∀ b u, b ≠ S → s.heap.get? b = some u → h'.get? b = some u) (hS : h'.get? S = some o) (hcell : ∀ v, o.data ≠ .cell v) (nx : Nx a' H) (ha : D.Acc a' h') :
    ∃ n', n = n' + 1 ∧ D.Live A ga g n' a' { s with heap := h', toks := tk } := by
  obtain ⟨fx, tx, σ, pins, ⟨hpr, I, hf⟩, hst, ht, on⟩ := T.on
  obtain ⟨hgp, hSp⟩ : ga ∈ D.prot ∧ S ∈ D.prot := by rw [ow.prot]; simp
  have pinOf : ∀ b ∈ D.prot, ∃ p ∈ pins, p.1 = b := fun b hb => by
    rw [← hpr] at hb
    obtain ⟨p, hp, e⟩ := List.mem_map.mp hb
    exact ⟨p, hp, e⟩
  obtain ⟨pg, hpg, epg⟩ := pinOf ga hgp
  obtain ⟨pS, hpS, epS⟩ := pinOf S hSp
  have nfp : ∀ b ∈ fx, b ≠ S := fun b hb z => by
    have := (hf b hb).2.2.2.2.2 pS (List.mem_append_right _ hpS)
    rw [epS] at this
    exact this z.symm
  obtain ⟨gE, gN, gL, gF, gC⟩ := I.pin pg (List.mem_append_right _ hpg)
  obtain ⟨sE, sN, sL, sF, sC⟩ := I.pin pS (List.mem_append_right _ hpS)
  rw [epg] at gE gN gL gF
  rw [epS] at sE sN sL sF
  have I0 : L2.Inv D.Z [] σ H s := I.pins_of fun p hp => nomatch hp
  have nt : ∀ b u, H b = some u → b ≠ S := fun b u e z => by rw [z, sN] at e; cases e
  have J0 : L2.Inv D.Z [] σ H { s with heap := h', toks := tk } := by
    refine I0.step (h' := h') (g' := s.gens) (d' := s.drawn) (t' := tk) (ch := [S]) (fun b hb => ?_) (fun b u _ _ hc e _ => hk b u (fun z => hc (by rw [z]; exact List.mem_singleton.mpr rfl)) e)
      (fun b u _ _ hc e _ => ⟨u.slots, hk b u (fun z => hc (by rw [z]; exact List.mem_singleton.mpr rfl)) e⟩) (fun _ _ _ _ e => e) (fun b u hc e => ⟨u, hk b u (fun z => hc (by rw [z]; exact List.mem_singleton.mpr rfl)) e⟩)
      (fun _ _ e => e) (fun _ _ _ e => e) (fun b ps e => ⟨#[], by rw [e]; simp⟩) (fun m hm => ?_) (fun b u e => ?_) I0.bare
    · rw [List.mem_singleton.mp hb]
      refine ⟨.inr ow.young, ow.loc, ow.cel, fun p hp => ?_⟩
      rw [ow.pn] at hp
      exact nomatch hp
    · obtain ⟨ob, es, ep, ho, r⟩ := hm
      exact ⟨ob, es, ep, hk _ ob (Ne.symm ow.loc) ho, r⟩
    · refine (I0.hok b u e).stay (fun c v hc q => hk c v ?_ q) (fun _ q => q) fun _ _ q => q
      rcases hc with rfl | hc
      · exact nt _ _ e
      · exact nt _ _ hc
  have gE' : h'.get? ga = some pg.2 := hk _ _ (Ne.symm ow.ne) gE
  have J : L2.Inv D.Z [(ga, pg.2), (S, o)] σ H { s with heap := h', toks := tk } := J0.pins_of fun p hp => by
    rcases List.mem_cons.mp hp with rfl | hp
    · exact ⟨gE', gN, gL, gF, gC⟩
    · rw [List.mem_singleton.mp hp]
      exact ⟨hS, sN, sL, sF, hcell⟩
  have isg : h'.IsGen ga g := by
    obtain ⟨ob, nm, qn, ho, r⟩ := T.isg
    exact ⟨ob, nm, qn, hk _ _ (Ne.symm ow.ne) ho, r⟩
  refine on { s with heap := h', toks := tk } _ H a' rfl isg ⟨by rw [ow.prot]; rfl, J, fun b hb => ?_⟩ (hst _ _ ht fun b hb u e => hk b u (nfp b hb) e) ha nx
  obtain ⟨f0, f1, f2, f3, f4, f5⟩ := hf b hb
  refine ⟨f0, f1, f2, f3, f4, fun p hp => ?_⟩
  rw [ow.pn] at hp
  rcases List.mem_cons.mp (show p ∈ [(ga, pg.2), (S, o)] from hp) with rfl | hp
  · have := f5 pg (List.mem_append_right _ hpg)
    rw [epg] at this
    exact this
  · rw [List.mem_singleton.mp hp]
    exact (nfp b hb).symm
theorem lst_loopY {D : GyD (List V)} {A : Around} {ga S : Addr} {g : Nat} {res : Value} {R : Result → Shared → Prop} (calm : A.handled = none) (room : A.depth < recursionLimit)
    (ow : D.Own ga S) (hyl : D.Yl = ylLst) (hac : D.Acc = accLst S) (fin : ∀ pins H t xs, D.Inv [] D.σ0 pins H t → accLst S xs t.heap → D.Dn xs H → R (.ok (.ret res)) t) :
    ∀ n s xs, D.Live A.in1 ga g n xs s → codeAny (model D.Z.prog D.Z.w) A (.builtin "list.extend.loop" ⟨[.ref S, .ref ga, res], []⟩) R s := by
  have hS : S ∈ D.prot := by rw [ow.prot]; simp
  have hfun : ∀ a a' h, D.Acc a h → D.Acc a' h → a = a' := by
    intro a a' h h1 h2
    rw [hac] at h1 h2
    obtain ⟨t, c, v, e⟩ := h1
    obtain ⟨t', c', v', e'⟩ := h2
    rw [e] at e'
    injection e' with e1
    injection e1 with _ _ e2
    injection e2 with e3
    have e4 : t = t' := by simpa using e3
    subst e4
    exact v.inj v'
  have hpr : ∀ a h h', (∀ b ∈ D.prot, h'.get? b = h.get? b) → D.Acc a h → D.Acc a h' := by
    intro a h h' e h1
    rw [hac] at h1 ⊢
    obtain ⟨t, c, v, q⟩ := h1
    exact ⟨t, c, v, (e S hS).trans q⟩
  intro n
  induction n using Nat.strongRecOn with
  | _ n ih =>
    intro s xs L
    refine codeAny_builtin F.entry_extend_loop ?_
    rw [Around.under_plainId F.plain_extend_loop _]
    show wpAny _ A.in1 (pyNext (.ref ga) >>= _) _ _ s
    refine wpAny_bind (gy_nextA (A := A.in1) calm room hfun hpr L (fun v x H Nx t rx T => ?_) (fun pins H t G acc dn => ?_))
    · have yl := T.yl
      rw [hyl] at yl
      obtain ⟨hl, q⟩ := yl
      have a1 := T.acc
      rw [hac] at a1
      obtain ⟨its, c1, v1, e1⟩ := a1
      have hsz : its.toArray.size = xs.length := by rw [List.size_toArray]; exact v1.length.symm
      show wpAny _ A.in1 (updateSeq S (·.push v) >>= _) _ _ _
      refine wpAny_bind (wpAny_updateSeq e1 rfl ?_ (by rw [hsz]; omega) (by rw [Array.size_push, hsz]; omega))
      have e2 := Heap.get?_update_self (Obj.mapSeq (·.push v)) e1 rfl
      have acc2 : accLst S (xs ++ [x]) (t.heap.update S (Obj.mapSeq (·.push v))) := ⟨its ++ [v], _, v1.append (.cons rx .nil), by
        rw [e2]
        simp [Obj.mapSeq]
        rfl⟩
      obtain ⟨n', rfl, L'⟩ := T.write (a' := xs ++ [x]) ow t.toks (fun b u hb e => (Heap.get?_update_other _ _ (Ne.symm hb)).trans e) e2 (fun v z => by cases z) q (by rw [hac]; exact acc2)
      exact wpAny_pure ⟨plainId_quiet F.plain_extend_loop _, ih n' (Nat.lt_succ_self _) _ _ L'⟩
    · rw [hac] at acc
      exact wpAny_pure (fin pins H t xs G acc dn)
end
end FF
namespace FF
open PySem PySem.Spec PyProof.Rows L2
variable [LT]
section
theorem eval_GeneratorExp2 (elt target iter tg1 iter1 : Expr) (scope : Scope) (pos : Pos) (env : Env) (hco : scope.isCoroutine = false) :
    eval (.GeneratorExp elt [⟨target, iter, [], 0⟩, ⟨tg1, iter1, [], 0⟩] scope pos) env = (do
      let x ← eval iter env
      standAt iter.pos
      let x ← genFold iter env x
      let it ← holding [x] (pyIter x)
      enterFrame
      let cl ← closureFor scope env
      let code ← genexprCode env pos (env.qual ++ "<genexpr>") scope
      let bi ← builtinsFor env.globals env.builtins
      let cenv ← newFunctionEnv scope env.globals cl [(".0", it)] (env.qual ++ "<genexpr>.") none code none bi
      newGenerator (.compStart (.GeneratorExp elt [⟨target, iter, [], 0⟩, ⟨tg1, iter1, [], 0⟩] scope pos) 0 it .none cenv) "<genexpr>" (env.qual ++ "<genexpr>")) := by
  rw [arm_eval_GeneratorExp]
  simp only [hco, Bool.false_eq_true, if_false]
  cases iter <;> rfl
variable {M : Model} {A : Around} {E : Value → Shared → Prop} {s : Shared}
theorem wpAny_GeneratorExp_make2 {env : Env} {elt target iter tg1 iter1 : Expr} {scope : Scope} {cl : List (Str × Addr)} {pos : Pos} {Q : Value → Shared → Prop}
    (hco : scope.isCoroutine = false) (hclos : closureFor scope env = pure cl) (hcell : ∀ y ∈ scope.names, y.2 ≠ .cell) (h0 : scope.names.lookup (".0" : Str) = some NameKind.local) (hkind : scope.kind = .function)
    (hroom : A.depth < recursionLimit)
    (h : wpAny M A (eval iter env) (fun xv s₁ => wpAny M A (pyIter xv) (fun it s₂ => s₂.heap.NoLimit ∧
      wpAny M A (genexprCode env pos (env.qual ++ "<genexpr>") scope) (fun code s₃ => wpAny M A (builtinsFor env.globals env.builtins) (fun bi s₄ =>
        ∀ h', h'.Ns s₄.heap.objs.size (fun y => if y = ".0" then some it else none) → Heap.SameBut s₄.heap.objs.size (s₄.heap.push { cls := .type "frame", data := .dict #[] }) h' →
          Q (.ref h'.objs.size) { s₄ with
            gens := s₄.gens.push (.fresh (.compStart (.GeneratorExp elt [⟨target, iter, [], 0⟩, ⟨tg1, iter1, [], 0⟩] scope pos) 0 it .none (genEnv scope cl s₄.heap.objs.size code bi env))),
            toks := s₄.toks + 1 + 1 + 1,
            heap := h'.push { cls := .type "generator", data := .fields #[.int s₄.gens.size 0, .str "<genexpr>" (s₄.toks + 1), .str (env.qual ++ "<genexpr>") (s₄.toks + 1 + 1)] } }) E s₃) E s₂) E s₁) E s)
    (hs : ∀ x, genFold iter env x = pure x) :
    wpAny M A (eval (.GeneratorExp elt [⟨target, iter, [], 0⟩, ⟨tg1, iter1, [], 0⟩] scope pos) env) Q E s := by
  rw [eval_GeneratorExp2 _ _ _ _ _ _ _ _ hco, hclos]
  refine wpAny_bind (wpAny_mono h (fun xv s₁ h₁ => ?_) fun _ _ e => e)
  refine wpAny_bind (wpAny_standAt ?_)
  refine wpAny_bind (wpAny_of_eq (hs xv) ?_)
  refine wpAny_bind (wpAny_holding (wpAny_mono h₁ (fun it s₂ h₂ => ?_) fun _ _ e => e))
  refine wpAny_bind (wpAny_enterFrame h₂.1 hroom ?_)
  refine wpAny_bind (wpAny_pure ?_)
  refine wpAny_bind (wpAny_mono h₂.2 (fun code s₃ h₃ => ?_) fun _ _ e => e)
  refine wpAny_bind (wpAny_mono h₃ (fun bi s₄ h₄ => ?_) fun _ _ e => e)
  have hbinds : ∀ y ∈ ([((".0" : Str), it)] : List (Str × Value)), scope.names.lookup y.1 = some NameKind.local := by
    intro y hy
    rcases List.mem_cons.mp hy with rfl | hy
    · exact h0
    · cases hy
  refine wpAny_bind (wpAny_newFunctionEnv hcell hbinds (fun h' hn' hs' => ?_) hkind)
  have e : (fun y : Str => ([((".0" : Str), it)] : List (Str × Value)).reverse.lookup y) = fun y : Str => if y = (".0" : Str) then some it else none := by
    funext y
    by_cases hy : y = ".0"
    · subst hy; simp
    · have : (y == (".0" : Str)) = false := by simpa using hy
      simp [List.lookup, this, hy]
  rw [e] at hn'
  simp only [newGenerator, newFields]
  refine wpAny_bind (wpAny_newGen (wpAny_bind (wpAny_mkText (wpAny_bind (wpAny_mkText (wpAny_newObj_type ?_ (by size_fits)))))))
  exact h₄ h' hn' hs'
end
section
variable {X : Cx} {pins : List (Addr × Obj)} {σ : L2.St} {H : Hp} {s : Shared}
/-- a generator expression with two fors has been made, at ga -/
structure Ready2 (X : Cx) (pins : List (Addr × Obj)) (σ : L2.St) (elt tg iter tg1 iter1 : Expr) (scope : Scope) (gpos : Pos) (N : List Str) (src : List (Option Nat)) (J : It) (G : Hp) (it : Addr) (fp : List Addr) (tn : Nat → Heap → Prop) (code : Value) (s4 t : Shared) (ga : Addr) (g : Nat) : Prop where
  i4 : L2.Inv X pins σ G s4
  fpX : ∀ b ∈ fp, FpOk X pins G b ∧ b < s4.heap.objs.size
  turn : Turn X.prog X.w X.K tg J fp it tn
  tn0 : tn 0 t.heap
  isg : t.heap.IsGen ga g
  gen : t.gens[g]? = some (.fresh (.compStart (.GeneratorExp elt [⟨tg, iter, [], 0⟩, ⟨tg1, iter1, [], 0⟩] scope gpos) 0 (.ref it) .none (gEnv X scope s4.heap.objs.size code)))
  inv : ∀ A : Around, A.handled = none → A.frames = some (gEnv X scope s4.heap.objs.size code :: X.stack) → L2.Inv (gcx X A N s4 G (gEnv X scope s4.heap.objs.size code) fp) [] (gxσ src σ) G t
  new : s4.heap.objs.size < ga
  lt : ga < t.heap.objs.size
theorem gx_make2 {c P : Addr} {elt tg iter tg1 iter1 : Expr} {scope : Scope} {gpos : Pos} {N : List Str} {src : List (Option Nat)} {wi : TI} {k : Nat} {Rr : It → Hp → Prop} {Q' : Value → Shared → Prop} (hr : Room k X.A) (TB : LamX.TabB X.base X.mg c P) (hcode : X.env.code = .ref c)
    (S : GxS X.N X.env.scope scope N src) (hi : PI X tg iter wi) (hs : ∀ v, genFold iter X.env v = pure v) (I : L2.Inv X pins σ H s) (h : wi σ H fun J H1 => TabG H1 P ∧ ∀ H2, Tabd P H1 H2 → Rr J H2)
    (fin : ∀ J G it fp tn code s4 t ga g, Rr J G → Ready2 X pins σ elt tg iter tg1 iter1 scope gpos N src J G it fp tn code s4 t ga g → Q' (.ref ga) t) :
    wpAny (model X.prog X.w) X.A (eval (.GeneratorExp elt [⟨tg, iter, [], 0⟩, ⟨tg1, iter1, [], 0⟩] scope gpos) X.env) Q' X.xe s := by
  have hfree : ∀ y ∈ scope.names, y.2 = .free → ∃ c, X.env.cells.lookup y.1 = some c := fun y hy e => by
    rcases S.free y hy e with k | k
    · exact I.ok.has _ (.inl k)
    · exact I.ok.has _ (.inr k)
  refine wpAny_GeneratorExp_make2 S.co (closure_ok hfree) S.cell S.dot S.kind hr.depth (thn (hi.run pins s σ H _ I h) fun xv s1 hx => thn hx fun itv s2 h2 => ?_) hs
  obtain ⟨it, fp, tn, J, H2, e, I2, T, st2, f2, ⟨ps, hP, htr, hlm⟩, q⟩ := h2
  subst e
  have hPs : s2.heap.get? P = some { cls := .none, data := .fields ps } := I2.hok P _ hP
  have cd : PySem.W.CodeHd s2.heap c P := TB.code.keeps I2.bk
  have sz : ∀ b ∈ fp, b < s2.heap.objs.size := fun b hb => by
    obtain ⟨o, e, _⟩ := T.obj _ _ st2 b hb
    exact Heap.lt_size e
  have nP : ∀ b ∈ fp, b ≠ P := fun b hb z => by
    have := (f2 b hb).1
    rw [z, hP] at this
    cases this
  refine ⟨I2.nolimit, ?_⟩
  -- behind the code object's making: the table is ps ++ more
  have cont : ∀ (code : Value) (h3 : Heap) (tk : Nat) (more : Array Value), Heap.ExtBut P s2.heap h3 → h3.get? P = some { cls := .none, data := .fields (ps ++ more) } → TriplesOk (ps ++ more).toList →
      wpAny (model X.prog X.w) X.A (builtinsFor X.env.globals X.env.builtins) (fun bi s4 =>
        ∀ h', h'.Ns s4.heap.objs.size (fun y => if y = ".0" then some (.ref it) else none) → Heap.SameBut s4.heap.objs.size (s4.heap.push { cls := .type "frame", data := .dict #[] }) h' →
          Q' (.ref h'.objs.size) { s4 with
            gens := s4.gens.push (.fresh (.compStart (.GeneratorExp elt [⟨tg, iter, [], 0⟩, ⟨tg1, iter1, [], 0⟩] scope gpos) 0 (.ref it) .none (genEnv scope (cloFrom X.env.cells scope.names []) s4.heap.objs.size code bi X.env))),
            toks := s4.toks + 1 + 1 + 1,
            heap := h'.push { cls := .type "generator", data := .fields #[.int s4.gens.size 0, .str "<genexpr>" (s4.toks + 1), .str (X.env.qual ++ "<genexpr>") (s4.toks + 1 + 1)] } }) X.xe { s2 with heap := h3, toks := tk } := by
    intro code h3 tk more hx hm htr3
    obtain ⟨bm, ob, e1, e2, e3, e4, e5, e6, e7, e8⟩ := TB.bm
    have J4 : L2.Inv X pins σ (upd H2 P (.tbl (ps ++ more))) { s2 with heap := h3, gens := s2.gens, drawn := s2.drawn, toks := tk } := GxR.inv_tab (more := more) I2 hP (fun b o hb e => hx b o hb e) hm I2.bare
    have f4 : ∀ b ∈ fp, FpOk X pins (upd H2 P (.tbl (ps ++ more))) b ∧ b < h3.objs.size := fun b hb => by
      obtain ⟨o, e, _⟩ := T.obj _ _ st2 b hb
      exact ⟨⟨by rw [upd_ne (nP b hb)]; exact (f2 b hb).1, (f2 b hb).2⟩, Heap.lt_size (hx b o (nP b hb) e)⟩
    have tn3 : tn 0 h3 := T.keep _ _ _ st2 fun b hb o e => hx b o (nP b hb) e
    refine wpAny_builtinsFor (m := X.mg) (by rw [I2.ok.glob]; exact (I2.mod.glob.keeps I2.bk).extBut hx TB.gP) e1 e2 (hx _ _ e4 (I2.bk _ _ e5)) e6 e7 e8 ?_
    intro h' hn' hs'
    have hsz : h'.objs.size = h3.objs.size + 1 := by rw [hs'.1, Heap.size_push]
    have kp : ∀ b o, h3.get? b = some o → h'.get? b = some o := fun b o e => hs'.extBut b o (Nat.ne_of_lt (Heap.lt_size e)) (Heap.get?_push_of_some _ e)
    refine fin J (upd H2 P (.tbl (ps ++ more))) it fp tn code { s2 with heap := h3, toks := tk } _ _ s2.gens.size (q _ ⟨⟨ps ++ more, upd_same, htr3, hlm⟩, fun b hb => upd_ne hb⟩) ⟨J4, f4, T, T.keep _ _ _ tn3 fun b hb o e => Heap.get?_push_of_some _ (kp b o e), ⟨_, _, _, Heap.get?_push_size _ rfl, rfl, rfl, rfl⟩, Array.getElem?_push_size .., fun A hA hF => ?_, by show h3.objs.size < h'.objs.size; omega, by show h'.objs.size < (h'.push _).objs.size; rw [Heap.size_push]; exact Nat.lt_succ_self _⟩
    exact gx_inv (s := { s2 with heap := h3, toks := tk }) S J4 f4 hA hF rfl hn' hs'
  cases hf : codeAmong gpos ps.toList with
  | none =>
    refine wpAny_genexprCodeX hcode (cd.code hPs htr) (cd.tab hPs) hf fun c' h' tk hx hge hlt hco' _ htab' _ => ?_
    obtain ⟨o1, vs, f1, tf, fl, tg', inF, tx, tt, op, _, _, _, _, _, _, _, _, _, htr', _⟩ := hco'
    exact cont _ h' tk _ hx htab'.2 htr'
  | some cv =>
    refine wpAny_genexprCode_hit hcode (cd.code hPs htr) hf ?_
    exact cont cv s2.heap s2.toks #[] (Heap.ExtBut.refl _ _) (by rw [Array.append_empty]; exact hPs) (by rw [Array.append_empty]; exact htr)
theorem over_frames2 {A : Around} {elt tg iter tg1 iter1 : Expr} {scope : Scope} {pos : Pos} {it : Value} {env : Env} {l : List Env} (h : A.frames = some l) :
    (A.over (.compLoop (.GeneratorExp elt [⟨tg, iter, [], 0⟩, ⟨tg1, iter1, [], 0⟩] scope pos) 0 it .none env) []).frames = some (env :: l) := by
  unfold Around.over
  simp only [h]
  rfl
theorem over_room2 {A : Around} {elt tg iter tg1 iter1 : Expr} {scope : Scope} {pos : Pos} {it : Value} {env : Env} {k : Nat} (r : Room (k + 1) A) :
    Room k (A.over (.compLoop (.GeneratorExp elt [⟨tg, iter, [], 0⟩, ⟨tg1, iter1, [], 0⟩] scope pos) 0 it .none env) []) :=
  ⟨r.hd, by have := r.dp; show A.depth + 0 + 1 + 3 * k + 5 < _; omega, by have := r.un; show A.units + 0 + 3 + 16 * k + 200 < _; omega⟩
/-- what the rules ask of the parts -/
structure GyP (X : Cx) (k : Nat) (elt tg tg1 iter1 : Expr) (scope : Scope) (N : List Str) (g : TG) (wi1 : TI) (g1 : TG) (te : TE) : Prop where
  pg : ∀ (A : Around) (s : Shared) (G : Hp) (C : Addr) (code : Value) (fp : List Addr), PG (gcx X A N s G (gEnv X scope C code) fp) tg g
  pi : ∀ (A : Around) (s : Shared) (G : Hp) (C : Addr) (code : Value) (fp : List Addr), Room k A → PI (gcx X A N s G (gEnv X scope C code) fp) tg1 iter1 wi1
  pg1 : ∀ (A : Around) (s : Shared) (G : Hp) (C : Addr) (code : Value) (fp : List Addr), PG (gcx X A N s G (gEnv X scope C code) fp) tg1 g1
  pe : ∀ (A : Around) (s : Shared) (G : Hp) (C : Addr) (code : Value) (fp : List Addr), Room k A → PE (gcx X A N s G (gEnv X scope C code) fp) elt te
def GyT {α : Type} (J : It) (g : TG) (wi1 : TI) (g1 : TG) (te : TE) (vs vs1 : List Nat) (σ0 : L2.St) (W : Nat → Nat → α → Hp → Prop) (yl : α → V → Hp → (α → Hp → Prop) → Prop) (dn : α → Hp → Prop) : Prop :=
  ∀ i m a H, W i m a H → (J.stop i H ∧ dn a H) ∨ (J.go i H ∧ ∀ x H1, J.yld i H x H1 → g x σ0 H1 fun σ2 H2 => wipe σ2 vs = σ0 ∧ wi1 σ2 H2 fun J1 H4 =>
    ∃ W1 : Nat → Nat → α → Hp → Prop, (∃ m1, m1 < m ∧ W1 0 m1 a H4) ∧ ∀ j k a H, W1 j k a H → (J1.stop j H ∧ ∃ m', m' ≤ k ∧ W (i + 1) m' a H) ∨ (J1.go j H ∧ ∃ Nx1 : α → Hp → Prop, (∀ a' H', Nx1 a' H' → ∃ k', k' < k ∧ W1 (j + 1) k' a' H') ∧
      ∀ x H1, J1.yld j H x H1 → g1 x (wipe σ2 vs1) H1 fun σ3 H3 => wipe σ3 vs1 = wipe σ2 vs1 ∧ te σ3 H3 fun y H4 => yl a y H4 Nx1))
section
variable {α : Type} {elt tg iter tg1 iter1 : Expr} {scope : Scope} {gpos : Pos} {N : List Str} {src : List (Option Nat)} {J : It} {G : Hp} {it : Addr} {fp : List Addr} {tn : Nat → Heap → Prop} {code : Value} {s4 t : Shared} {ga : Addr} {g : Nat} {gg : TG} {wi1 : TI} {gg1 : TG} {te : TE}
abbrev Ready2.dat (_ : Ready2 X pins σ elt tg iter tg1 iter1 scope gpos N src J G it fp tn code s4 t ga g) (A : Around) (prot : List Addr) (Acc : α → Heap → Prop) (W : Nat → Nat → α → Hp → Prop) (Yl : α → V → Hp → (α → Hp → Prop) → Prop) (Dn : α → Hp → Prop) (vs vs1 : List Nat) : GyD α :=
  ⟨gcx X (A.in1.over (.compLoop (.GeneratorExp elt [⟨tg, iter, [], 0⟩, ⟨tg1, iter1, [], 0⟩] scope gpos) 0 (.ref it) .none (gEnv X scope s4.heap.objs.size code)) []) N s4 G (gEnv X scope s4.heap.objs.size code) fp, elt, tg, iter, tg1, iter1, scope, gpos, it, fp, tn, J, prot, Acc, W, Yl, Dn, wipe (gxσ src σ) vs, vs, vs1⟩
theorem Ready2.live (R : Ready2 X pins σ elt tg iter tg1 iter1 scope gpos N src J G it fp tn code s4 t ga g) {k : Nat} {A : Around} {C : List (Addr × Obj)} {Acc : α → Heap → Prop} {W : Nat → Nat → α → Hp → Prop} {Yl : α → V → Hp → (α → Hp → Prop) → Prop} {Dn : α → Hp → Prop} {vs vs1 : List Nat} {a : α} {m : Nat} {h' : Heap} {tk : Nat}
    (S : GxS X.N X.env.scope scope N src) (hp : GyP X k elt tg tg1 iter1 scope N gg wi1 gg1 te) (hs1 : ∀ env x, foldedSetIterable iter1 env x = pure x) (hv : ∀ i ∈ vs1, i ∈ vs) (room : Room (k + 2) A.in1) (hA : A.in1.frames = some X.stack) (ht : GyT J gg wi1 gg1 te vs vs1 (wipe (gxσ src σ) vs) W Yl Dn)
    (hk : ∀ b o, t.heap.get? b = some o → h'.get? b = some o) (hC : ∀ p ∈ C, h'.get? p.1 = some p.2 ∧ t.heap.objs.size ≤ p.1 ∧ ∀ v, p.2.data ≠ .cell v) (hacc : Acc a h') (hw : W 0 m a G) :
    (R.dat A (ga :: C.map (·.1)) Acc W Yl Dn vs vs1).Ok k gg wi1 gg1 te ∧ (R.dat A (ga :: C.map (·.1)) Acc W Yl Dn vs vs1).Live A ga g (m + 1) a { t with heap := h', toks := tk } := by
  have hZ := R.inv (A.in1.over (.compLoop (.GeneratorExp elt [⟨tg, iter, [], 0⟩, ⟨tg1, iter1, [], 0⟩] scope gpos) 0 (.ref it) .none (gEnv X scope s4.heap.objs.size code)) []) room.hd (over_frames2 hA)
  have hZ2 : L2.Inv (gcx X (A.in1.over (.compLoop (.GeneratorExp elt [⟨tg, iter, [], 0⟩, ⟨tg1, iter1, [], 0⟩] scope gpos) 0 (.ref it) .none (gEnv X scope s4.heap.objs.size code)) []) N s4 G (gEnv X scope s4.heap.objs.size code) fp) [] (wipe (gxσ src σ) vs) G { t with heap := h', toks := tk } :=
    (hZ.weak (wipe_length _ _) fun j v e => (wipe_some e).1).kept (t' := tk) hk
  obtain ⟨og, nm, qn, hog, hcls, hdat, hsl⟩ := id R.isg
  have young : ∀ b, s4.heap.objs.size < b → G b = none ∧ b ≠ s4.heap.objs.size ∧ b ∉ frs X.stack := fun b hb => ⟨R.i4.hok.fresh (Nat.le_of_lt hb), Nat.ne_of_gt hb, fun z => by
    rcases List.mem_cons.mp (R.i4.stkSub b z) with z | z
    · rw [z] at hb
      exact absurd (Nat.lt_trans R.i4.lt hb) (Nat.lt_irrefl _)
    · exact R.i4.nofs (Nat.le_of_lt hb) z⟩
  have cY : ∀ p ∈ C, s4.heap.objs.size < p.1 := fun p hp' => Nat.lt_of_lt_of_le (Nat.lt_trans R.new R.lt) (hC p hp').2.1
  have ok : (R.dat A (ga :: C.map (·.1)) Acc W Yl Dn vs vs1).Ok k gg wi1 gg1 te := ⟨rfl, rfl, S.co, R.turn, hp.pg .., hp.pi _ _ _ _ _ _ ((over_room2 room).mono (Nat.le_succ k)), hs1, fun A => hp.pg1 .., fun A r => hp.pe _ _ _ _ _ _ r, hv, ht⟩
  have GI : (R.dat A (ga :: C.map (·.1)) Acc W Yl Dn vs vs1).Inv fp (wipe (gxσ src σ) vs) ((ga, og) :: C) G { t with heap := h', toks := tk } := by
    refine ⟨rfl, hZ2.pins_of fun p hp' => ?_, fun b hb => ?_⟩
    · rcases List.mem_cons.mp hp' with rfl | hp'
      · obtain ⟨y1, y2, y3⟩ := young ga R.new
        exact ⟨hk _ _ hog, y1, y2, y3, fun v z => by rw [hdat] at z; cases z⟩
      · obtain ⟨y1, y2, y3⟩ := young p.1 (cY p hp')
        exact ⟨(hC p hp').1, y1, y2, y3, (hC p hp').2.2⟩
    · refine ⟨(R.fpX b hb).1.1, Nat.ne_of_lt (R.fpX b hb).2, hZ.ok.exfs b hb, .inl hb, (hZ.ok.exf b hb).2, fun p hp' z => ?_⟩
      have hb2 := (R.fpX b hb).2
      rcases List.mem_cons.mp (show p ∈ (ga, og) :: C from hp') with e | hp'
      · rw [← z, e] at hb2
        exact absurd (Nat.lt_trans R.new hb2) (Nat.lt_irrefl _)
      · rw [← z] at hb2
        exact absurd (Nat.lt_trans (cY p hp') hb2) (Nat.lt_irrefl _)
  refine ⟨ok, List.mem_cons_self, ⟨og, nm, qn, hk _ _ hog, hcls, hdat, hsl⟩, hacc, ⟨_, _, _, _, GI⟩, _, R.gen, rfl, ?_⟩
  exact gy_begin ok (A := A.in1) rfl hA rfl (room.mono (Nat.le_succ (k + 1))) (Nat.lt_succ_self m) (GI.setGen rfl) (R.turn.keep _ _ _ R.tn0 fun b _ o e => hk b o e) hacc hw
/-- back in the def -/
theorem Ready2.back (R : Ready2 X pins σ elt tg iter tg1 iter1 scope gpos N src J G it fp tn code s4 t ga g) {A : Around} {prot : List Addr} {Acc : α → Heap → Prop} {W : Nat → Nat → α → Hp → Prop} {Yl : α → V → Hp → (α → Hp → Prop) → Prop} {Dn : α → Hp → Prop} {vs vs1 : List Nat} {fx : List Addr} {σ1 : L2.St} {pn : List (Addr × Obj)} {H' : Hp} {s' : Shared}
    (GI : (R.dat A prot Acc W Yl Dn vs vs1).Inv fx σ1 pn H' s') : L2.Inv X pins σ H' s' :=
  R.i4.call' (ch := fp) GI.2.1.os GI.2.1.base GI.2.1.hok GI.2.1.bare fun b hb => ⟨(R.fpX b hb).1.2.2.2.1, (R.fpX b hb).1.2.1, (R.fpX b hb).1.2.2.2.2.1, (R.fpX b hb).1.2.2.2.2.2⟩
end
end
end FF
namespace FF
open PySem PySem.Spec PyProof.Rows L2
variable [LT]
section
variable {X : Cx} {pins : List (Addr × Obj)} {σ : L2.St} {elt tg iter tg1 iter1 : Expr} {scope : Scope} {gpos : Pos} {N : List Str} {src : List (Option Nat)} {J : It} {G : Hp} {it : Addr} {fp : List Addr} {tn : Nat → Heap → Prop} {code : Value} {s4 t : Shared} {ga : Addr} {g : Nat} {gg : TG} {wi1 : TI} {gg1 : TG} {te : TE}
theorem collect_gx2 (R : Ready2 X pins σ elt tg iter tg1 iter1 scope gpos N src J G it fp tn code s4 t ga g) {k : Nat} {A : Around} {W : Nat → Nat → List V → Hp → Prop} {Dn : List V → Hp → Prop} {vs vs1 : List Nat} {m : Nat} {Q : List Value → Shared → Prop} {E : Value → Shared → Prop}
    (S : GxS X.N X.env.scope scope N src) (hp : GyP X k elt tg tg1 iter1 scope N gg wi1 gg1 te) (hs1 : ∀ env x, foldedSetIterable iter1 env x = pure x) (hv : ∀ i ∈ vs1, i ∈ vs) (calm : A.handled = none) (dep : A.depth < recursionLimit) (room : Room (k + 2) A.in1.in1) (hA : A.in1.in1.frames = some X.stack) (hd : X.A.handled = none) (fr : X.A.frames = some X.stack)
    (ht : GyT J gg wi1 gg1 te vs vs1 (wipe (gxσ src σ) vs) W ylLst Dn) (w0 : W 0 m [] G)
    (fin : ∀ H' t' its xs, L2.Inv X pins σ H' t' → Vals xs its → Dn xs H' → Q its t') : wpAny (model X.prog X.w) A (collect (.ref ga)) Q E t := by
  have hgen : t.TypeIs (.ref ga) "generator" := by
    obtain ⟨o, nm, qn, ho, hc, _⟩ := R.isg
    exact ⟨o, ho, hc⟩
  have hlt : ga < t.heap.objs.size := R.lt
  have hSI : t.heap.objs.size ≠ ga := Nat.ne_of_gt hlt
  unfold collect
  refine wpAny_bind (wpAny_runValue (codeAny_builtin F.entry_proto_collect ?_))
  rw [Around.under_plainId F.plain_proto_collect _]
  show wpAny _ A.in1 (newList [] >>= fun l => again (.builtin "list.__iadd__" ⟨[l, .ref ga], []⟩)) _ _ t
  refine wpAny_bind (wpAny_newObj_type ?_)
  refine wpAny_pure ⟨plainId_quiet F.plain_list_iadd _, codeAny_builtin F.entry_list_iadd ?_⟩
  rw [Around.under_plainId F.plain_list_iadd _]
  have hgen1 : ({ t with heap := t.heap.push { cls := .type "list", data := .seq ([] : List Value).toArray } } : Shared).TypeIs (.ref ga) "generator" := by
    obtain ⟨o, ho, hc⟩ := hgen
    exact ⟨o, Heap.get?_push_of_some _ ho, hc⟩
  have isg1 : (t.heap.push { cls := .type "list", data := .seq ([] : List Value).toArray }).IsGen ga g := by
    obtain ⟨o, nm, qn, ho, r⟩ := R.isg
    exact ⟨o, nm, qn, Heap.get?_push_of_some _ ho, r⟩
  show wpAny _ A.in1 (Builtin.List.listExtendWith (.ref t.heap.objs.size) (.ref ga) (.ref t.heap.objs.size)) _ _ _
  unfold Builtin.List.listExtendWith
  refine wpAny_bind (wpAny_typeOf hgen1 ?_)
  have h1 : Builtin.List.listSameRef (.ref t.heap.objs.size) (.ref ga) = false := by simp [Builtin.List.listSameRef, hSI]
  have h2 : (Value.type "generator" == Value.type "list") = false := by decide
  have h3 : (Value.type "generator" == Value.type "tuple") = false := by decide
  simp only [h1, h2, h3, Bool.or_false, Bool.false_eq_true, if_false]
  refine wpAny_bind (wpAny_pyIter_gen isg1 ?_)
  refine wpAny_bind (wpAny_holding ?_)
  unfold Builtin.List.listLengthHint
  refine wpAny_bind (wpAny_specialOf hgen1 F.gen_no_len ?_)
  show wpAny _ A.in1 (specialOf (Value.ref ga) (Str.ofString "__length_hint__") >>= _) _ _ _
  refine wpAny_bind (wpAny_specialOf hgen1 F.gen_no_hint ?_)
  refine wpAny_pure ?_
  show wpAny _ A.in1 (rule "list.extend.makes-room" >>= fun _ => Builtin.List.listTouch (.ref t.heap.objs.size) >>= fun _ =>
    again (.builtin "list.extend.loop" ⟨[.ref t.heap.objs.size, .ref ga, .ref t.heap.objs.size], []⟩)) _ _ _
  refine wpAny_bind (wpAny_rule ?_)
  have hS₁ : (t.heap.push { cls := .type "list", data := .seq ([] : List Value).toArray }).get? t.heap.objs.size = some { cls := .type "list", data := .seq ([] : List Value).toArray } := Heap.get?_push_size _ rfl
  refine wpAny_bind ?_
  show wpAny _ A.in1 (updateSeq t.heap.objs.size (·.push .none) >>= fun _ => updateSeq t.heap.objs.size (·.pop)) _ _ _
  refine wpAny_bind (wpAny_updateSeq hS₁ rfl ?_)
  have hS₂ := Heap.get?_update_self (Obj.mapSeq (·.push Value.none)) hS₁ rfl
  refine wpAny_updateSeq hS₂ rfl ?_
  have hS₃ := Heap.get?_update_self (Obj.mapSeq (·.pop)) hS₂ rfl
  have oth : ∀ b o, t.heap.get? b = some o →
      (((t.heap.push { cls := .type "list", data := .seq ([] : List Value).toArray }).update t.heap.objs.size (Obj.mapSeq (·.push Value.none))).update t.heap.objs.size (Obj.mapSeq (·.pop))).get? b = some o :=
    fun b o e => (Heap.get?_update_other _ _ (Nat.ne_of_gt (Heap.lt_size e))).trans ((Heap.get?_update_other _ _ (Nat.ne_of_gt (Heap.lt_size e))).trans (Heap.get?_push_of_some _ e))
  obtain ⟨ok, L⟩ := R.live (A := A.in1) (C := [(t.heap.objs.size, _)]) (Acc := accLst t.heap.objs.size) (a := []) (m := m) (h' := _) (tk := t.toks) S hp hs1 hv room hA ht oth
    (fun q hq => by rw [List.mem_singleton.mp hq]; exact ⟨hS₃, Nat.le_refl _, fun v z => by cases z⟩) ⟨[], _, .nil, hS₃⟩ w0
  have big : s4.heap.objs.size < t.heap.objs.size := Nat.lt_trans R.new R.lt
  refine wpAny_pure ⟨plainId_quiet F.plain_extend_loop _, lst_loopY (A := A) calm dep ⟨rfl, Nat.ne_of_gt R.lt, Nat.le_of_lt big, Nat.ne_of_gt big, fun x c0 e z => ?_, rfl⟩ rfl rfl (fun pn H' t' xs GI acc dn => ?_) (m + 1) _ [] L⟩
  · have hZ := R.inv (A.in1.in1.over (.compLoop (.GeneratorExp elt [⟨tg, iter, [], 0⟩, ⟨tg1, iter1, [], 0⟩] scope gpos) 0 (.ref it) .none (gEnv X scope s4.heap.objs.size code)) []) room.hd (over_frames2 hA)
    obtain ⟨v, zc⟩ := hZ.cell x c0 e
    exact absurd zc.lt (by rw [z]; exact Nat.lt_irrefl _)
  · obtain ⟨its, c, vv, hS'⟩ := acc
    show wpAny _ A (load t.heap.objs.size >>= _) _ _ t'
    refine wpAny_bind (wpAny_load hS' ?_)
    refine wpAny_pure ?_
    have := fin H' t' its xs (R.back GI) vv dn
    simpa using this
end
def tTupG2 (P : Addr) (wi : TI) (g : TG) (wi1 : TI) (g1 : TG) (te : TE) (src : List (Option Nat)) (vs vs1 : List Nat) : TE := fun σ H Q => wi σ H fun J H1 => TabG H1 P ∧ ∀ H2, Tabd P H1 H2 →
  ∃ W : Nat → Nat → List V → Hp → Prop, (∃ m, W 0 m [] H2) ∧ GyT (α := List V) J g wi1 g1 te vs vs1 (wipe (gxσ src σ) vs) W ylLst (fun xs H' => xs.length ≤ sizeLine ∧ ∀ q, H' q = none → Q (.ref q) (upd H' q (.tup xs)))
section
variable {X : Cx} {c P : Addr} {elt tg iter tg1 iter1 : Expr} {scope : Scope} {gpos p pos : Pos} {N : List Str} {src : List (Option Nat)} {wi : TI} {g : TG} {wi1 : TI} {g1 : TG} {te : TE} {k : Nat} {vs vs1 : List Nat}
theorem pe_tuple2 (hr : Room (k + 7) X.A) (hg : Gl X "tuple") (hm : X.mg "tuple" = none) (TB : LamX.TabB X.base X.mg c P) (hcode : X.env.code = .ref c) (S : GxS X.N X.env.scope scope N src) (hi : PI X tg iter wi) (hp : GyP X k elt tg tg1 iter1 scope N g wi1 g1 te) (hv : ∀ i ∈ vs1, i ∈ vs)
    (hs : ∀ v, genFold iter X.env v = pure v := by intro _; rfl) (hs1 : ∀ env x, foldedSetIterable iter1 env x = pure x := by intro _ _; rfl)
    (he : starEach [.GeneratorExp elt [⟨tg, iter, [], 0⟩, ⟨tg1, iter1, [], 0⟩] scope gpos] X.env = (false, eval (.GeneratorExp elt [⟨tg, iter, [], 0⟩, ⟨tg1, iter1, [], 0⟩] scope gpos) X.env) :: starEach [] X.env := by rfl) :
    PE X (.Call (.Name "tuple" p) [.GeneratorExp elt [⟨tg, iter, [], 0⟩, ⟨tg1, iter1, [], 0⟩] scope gpos] [] pos) (tTupG2 P wi g wi1 g1 te src vs vs1) := by
  refine ⟨fun pins s σ H Q I h => ?_⟩
  refine wpAny_Call_Name_kw (ld_blt I hg hm boot_tuple (PyProof.Rows.callWith_type1 ?_ he (by rfl)))
  rw [he]
  show wpAny _ _ (spliced ((false, eval (.GeneratorExp elt [⟨tg, iter, [], 0⟩, ⟨tg1, iter1, [], 0⟩] scope gpos) X.env) :: backTo pos (starEach [] X.env))) _ _ s
  refine Calls.spliced_cons (gx_make2 hr TB hcode S hi hs I h fun J G it fp tn code s4 t ga gn q R => Calls.spliced_nil ?_)
  obtain ⟨W, ⟨m, w0⟩, ht⟩ := q
  have r1 : Room (k + 6) X.A.in1 := hr.in1
  have r2 : Room (k + 5) X.A.in1.in1 := r1.in1
  have r3 : Room (k + 4) X.A.in1.in1.in1 := r2.in1
  have r4 : Room (k + 3) X.A.in1.in1.in1.in1 := r3.in1
  have hgen : t.TypeIs (.ref ga) "generator" := by
    obtain ⟨o, nm, qn, ho, hc, _⟩ := R.isg
    exact ⟨o, ho, hc⟩
  refine callType_codes (Q₁ := fun obj s₁ => s₁.TypeIs obj "tuple" ∧ EP X pins σ Q obj s₁) F.called_tuple (F.typeCall_tuple_1 _) F.entry_object_init ?_ fun obj s₁ h₁ => ⟨h₁.1, F.args_object_init_2 obj _, object_init_meets F.called_tuple.init.lookup F.called_tuple.made (by decide) X.prog X.w X.A.in1 _ s₁ ⟨h₁.1, rfl, h₁.2⟩⟩
  refine codeAny_of_tree ?_
  show wpAny _ X.A.in1.in1 (do checkBuiltinCall "tuple.__new__" ⟨[.type "tuple", .ref ga], []⟩; again (.builtin "tuple.__new__" ⟨[.type "tuple", .ref ga], []⟩)) _ _ t
  refine wpAny_bind (wpAny_of_eq (F.newCall_tuple_1 _) (wpAny_pure ⟨plainId_quiet F.plain_tuple_new _, codeAny_builtin F.entry_tuple_new ?_⟩))
  rw [Around.under_plainId F.plain_tuple_new _]
  have hsub := sub_tuple_self
  have hinit := init_tuple_lookup
  have hmh := madeHere_tuple
  wp_walk using wpAny_typeOf hgen, collect_gx2 (A := X.A.in1.in1) R (k := k) (m := m) S hp hs1 hv r2.hd r2.depth (r4.mono (by omega)) I.ok.frames hr.hd I.ok.frames ht w0
  intro H' t' its xs I' vv dn
  obtain ⟨hz, q⟩ := dn
  show wpAny _ _ (Builtin.Tuple.tupleExact its.toArray >>= fun v => ret v) _ _ _
  unfold Builtin.Tuple.tupleExact
  refine wpAny_bind (wpAny_newObj_type ?_ (by show its.toArray.size ≤ sizeLine; rw [List.size_toArray, ← vv.length]; exact hz))
  refine wpAny_pure ?_
  refine ⟨⟨_, Heap.get?_push_size _ rfl, rfl⟩, .ref t'.heap.objs.size, _, I'.laid (t' := t'.toks) (o := .tup xs) (fun b ob q => Heap.get?_push_of_some _ q) (Nat.le_refl _) ?_, rfl, q _ (I'.hok.fresh (Nat.le_refl _))⟩
  exact ⟨hz, its, vv, IsTup.new _ _⟩
end
/-- a turn's inner loop -/
def InG2 (g1 : TG) (te : TE) (vs1 : List Nat) (σ2 : L2.St) (yl : List V → V → Hp → (List V → Hp → Prop) → Prop) (a : List V) (b : Nat) (Nx : Nat → List V → Hp → Prop) : It → Hp → Prop := fun J1 H4 =>
  ∃ W1 : Nat → Nat → List V → Hp → Prop, (∃ m1, m1 < b ∧ W1 0 m1 a H4) ∧ ∀ j k a H, W1 j k a H → (J1.stop j H ∧ ∃ m', m' ≤ k ∧ Nx m' a H) ∨ (J1.go j H ∧ ∃ Nx1 : List V → Hp → Prop, (∀ a' H', Nx1 a' H' → ∃ k', k' < k ∧ W1 (j + 1) k' a' H') ∧
      ∀ x H1, J1.yld j H x H1 → g1 x (wipe σ2 vs1) H1 fun σ3 H3 => wipe σ3 vs1 = wipe σ2 vs1 ∧ te σ3 H3 fun y H4 => yl a y H4 Nx1)
/-- a walk whose turns are walks: M tells how much is left to come from turn i on -/
theorem gy_out {J : It} {n : Nat} {Gd : Hp → Prop} {Y : Nat → Hp → V → Hp → Prop} (wk : Walk J n Gd Y) {g : TG} {wi1 : TI} {g1 : TG} {te : TE} {vs vs1 : List Nat} {σ0 : L2.St} {dn : List V → Hp → Prop} {H0 : Hp} (M : Nat → Nat) (Pv : Nat → List V → Hp → Prop) (h0 : Pv 0 [] H0) (hG : ∀ i a H, i ≤ n → Pv i a H → Gd H)
    (hs : ∀ (i : Nat) x a H H', i < n → Pv i a H → Y i H x H' → g x σ0 H' fun σ2 H2 => wipe σ2 vs = σ0 ∧ wi1 σ2 H2 (InG2 g1 te vs1 σ2 ylLst a (M i) fun m' a H => m' = M (i + 1) ∧ i + 1 ≤ n ∧ Pv (i + 1) a H)) (hd : ∀ a H, Pv n a H → dn a H) :
    ∃ W : Nat → Nat → List V → Hp → Prop, (∃ m, W 0 m [] H0) ∧ GyT (α := List V) J g wi1 g1 te vs vs1 σ0 W ylLst dn := by
  refine ⟨fun i m a H => m = M i ∧ i ≤ n ∧ Pv i a H, ⟨_, rfl, Nat.zero_le _, h0⟩, ?_⟩
  rintro i m a H ⟨rfl, hi, p⟩
  have ok := hG i a H hi p
  by_cases hlt : i < n
  · exact .inr ⟨wk.goes i H hlt ok, fun x H1 y => hs i x a H H1 hlt p (wk.yields i H x H1 hlt ok y)⟩
  · have e : i = n := by omega
    subst e
    exact .inl ⟨wk.stops H ok, hd a H p⟩
theorem gy_inn {J1 : It} {n : Nat} {Gd : Hp → Prop} {Y : Nat → Hp → V → Hp → Prop} (wk : Walk J1 n Gd Y) {g1 : TG} {te : TE} {vs1 : List Nat} {σ2 : L2.St} {yl : List V → V → Hp → (List V → Hp → Prop) → Prop} {a0 : List V} {b c : Nat} {Nx : Nat → List V → Hp → Prop} {H4 : Hp} (hb : n + c < b) (Pv : Nat → List V → Hp → Prop) (h0 : Pv 0 a0 H4) (hG : ∀ i a H, i ≤ n → Pv i a H → Gd H)
    (hs : ∀ (j : Nat) x a H H', j < n → Pv j a H → Y j H x H' → g1 x (wipe σ2 vs1) H' fun σ3 H3 => wipe σ3 vs1 = wipe σ2 vs1 ∧ te σ3 H3 fun y H5 => yl a y H5 (Pv (j + 1))) (hd : ∀ a H, Pv n a H → Nx c a H) : InG2 g1 te vs1 σ2 yl a0 b Nx J1 H4 := by
  refine ⟨fun j k a H => k = n - j + c ∧ j ≤ n ∧ Pv j a H, ⟨n + c, hb, by omega, Nat.zero_le _, h0⟩, ?_⟩
  rintro j k a H ⟨rfl, hj, p⟩
  have ok := hG j a H hj p
  by_cases hlt : j < n
  · exact .inr ⟨wk.goes j H hlt ok, Pv (j + 1), fun a' H' p' => ⟨n - (j + 1) + c, by omega, rfl, hlt, p'⟩, fun x H1 y => hs j x a H H1 hlt p (wk.yields j H x H1 hlt ok y)⟩
  · have e : j = n := by omega
    subst e
    exact .inl ⟨wk.stops H ok, c, by omega, hd a H p⟩
end FF
namespace FF
open PySem PySem.Spec PyProof.Rows L2
variable [LT]
/-! ### what lots join -/
/-- the first point of each lot with each of its others -/
def starF1 (l : List Int) : List (Int × Int) := l.tail.map fun p => (l.headD 0, p)
def joinsF (lots : List (List Int)) : List (Int × Int) := (lots.map starF1).flatten
theorem joins_snoc (a : List (List Int)) (l : List Int) : joinsF (a ++ [l]) = joinsF a ++ starF1 l := by
  unfold joinsF
  rw [List.map_append, List.flatten_append]
  simp
theorem mem_joins {lots : List (List Int)} {t : Int × Int} : t ∈ joinsF lots ↔ ∃ l ∈ lots, t.1 = l.headD 0 ∧ t.2 ∈ l.tail := by
  unfold joinsF starF1
  rw [List.mem_flatten]
  constructor
  · rintro ⟨x, hx, ht⟩
    obtain ⟨l, hl, rfl⟩ := List.mem_map.mp hx
    obtain ⟨p, hp, rfl⟩ := List.mem_map.mp ht
    exact ⟨l, hl, rfl, hp⟩
  · rintro ⟨l, hl, e, hp⟩
    exact ⟨_, List.mem_map.mpr ⟨l, hl, rfl⟩, List.mem_map.mpr ⟨t.2, hp, by rw [← e]⟩⟩
theorem joins_ok {n : Int} {lots : List (List Int)} (h : ∀ l ∈ lots, Lot n l) : TOk n (joinsF lots) := fun t ht => by
  obtain ⟨l, hl, e, hp⟩ := mem_joins.mp ht
  have L := h l hl
  cases l with
  | nil => cases hp
  | cons a r =>
    have hp : t.2 ∈ r := hp
    have e : t.1 = a := e
    have h1 := (List.pairwise_cons.mp L.up).1 _ hp
    have h2 := L.ok a List.mem_cons_self
    have h3 := L.ok t.2 (List.mem_cons_of_mem _ hp)
    omega
theorem joins_len {m : Nat} : ∀ {lots : List (List Int)}, (∀ l ∈ lots, l.length ≤ m) → (joinsF lots).length ≤ lots.length * m
  | [], _ => Nat.zero_le _
  | l :: r, h => by
    have ih := joins_len fun x hx => h x (List.mem_cons_of_mem _ hx)
    have hl := h l List.mem_cons_self
    have e : (joinsF (l :: r)).length = l.tail.length + (joinsF r).length := by
      unfold joinsF starF1
      rw [List.map_cons, List.flatten_cons, List.length_append, List.length_map]
    rw [e, List.length_tail, List.length_cons, Nat.succ_mul]
    omega
end FF
namespace FF
open PySem PySem.Spec PyProof.Rows L2
variable [LT]
/-! ### tight lots with a point in common, the greatest tight lots -/
theorem four_len (p q : Int → Bool) : ∀ L : List Int, (L.filter fun x => p x || q x).length + (L.filter fun x => p x && q x).length = (L.filter p).length + (L.filter q).length
  | [] => rfl
  | x :: L => by
    have ih := four_len p q L
    rw [List.filter_cons, List.filter_cons, List.filter_cons, List.filter_cons]
    cases p x <;> cases q x <;> simp <;> omega
def orL (n : Int) (A B : List Int) : List Int := (upTo n).filter fun x => decide (x ∈ A) || decide (x ∈ B)
def andL (n : Int) (A B : List Int) : List Int := (upTo n).filter fun x => decide (x ∈ A) && decide (x ∈ B)
theorem Lot.filt {n : Int} {A : List Int} (h : Lot n A) : (upTo n).filter (fun x => decide (x ∈ A)) = A := sorted_one ((upTo_up n).filter _) h.up fun x => by
  rw [List.mem_filter, decide_eq_true_eq]
  exact ⟨fun z => z.2, fun z => ⟨upTo_mem.mpr (h.ok x z), z⟩⟩
theorem mem_orL {n : Int} {A B : List Int} (ha : Lot n A) (hb : Lot n B) {x : Int} : x ∈ orL n A B ↔ x ∈ A ∨ x ∈ B := by
  unfold orL
  rw [List.mem_filter, Bool.or_eq_true, decide_eq_true_eq, decide_eq_true_eq]
  exact ⟨fun z => z.2, fun z => ⟨upTo_mem.mpr (z.elim (ha.ok x) (hb.ok x)), z⟩⟩
theorem mem_andL {n : Int} {A B : List Int} (ha : Lot n A) {x : Int} : x ∈ andL n A B ↔ x ∈ A ∧ x ∈ B := by
  unfold andL
  rw [List.mem_filter, Bool.and_eq_true, decide_eq_true_eq, decide_eq_true_eq]
  exact ⟨fun z => z.2, fun z => ⟨upTo_mem.mpr (ha.ok x z.1), z⟩⟩
theorem or_and_inside {n : Int} {A B : List Int} (ha : Lot n A) (hb : Lot n B) : ∀ L : List (Int × Int), inside A L + inside B L ≤ inside (orL n A B) L + inside (andL n A B) L
  | [] => Nat.le_refl _
  | t :: L => by
    have ih := or_and_inside ha hb L
    rw [inside_cons, inside_cons, inside_cons, inside_cons]
    have e1 : decide (t.1 ∈ orL n A B) = (decide (t.1 ∈ A) || decide (t.1 ∈ B)) := by rw [← Bool.decide_or]; exact decide_eq_decide.mpr (mem_orL ha hb)
    have e2 : decide (t.2 ∈ orL n A B) = (decide (t.2 ∈ A) || decide (t.2 ∈ B)) := by rw [← Bool.decide_or]; exact decide_eq_decide.mpr (mem_orL ha hb)
    have e3 : decide (t.1 ∈ andL n A B) = (decide (t.1 ∈ A) && decide (t.1 ∈ B)) := by rw [← Bool.decide_and]; exact decide_eq_decide.mpr (mem_andL ha)
    have e4 : decide (t.2 ∈ andL n A B) = (decide (t.2 ∈ A) && decide (t.2 ∈ B)) := by rw [← Bool.decide_and]; exact decide_eq_decide.mpr (mem_andL ha)
    rw [e1, e2, e3, e4]
    generalize decide (t.1 ∈ A) = a1, decide (t.2 ∈ A) = a2, decide (t.1 ∈ B) = b1, decide (t.2 ∈ B) = b2
    cases a1 <;> cases a2 <;> cases b1 <;> cases b2 <;> simp <;> omega
section
variable {ts : List (Int × Int)} {n k : Int} {ws : List V}
theorem TightL.union {A B : List Int} (hL : LayK ts k ws) (a : TightL ts n k ws A) (b : TightL ts n k ws B) {x : Int} (xa : x ∈ A) (xb : x ∈ B) : TightL ts n k ws (orL n A B) := by
  have hl := four_len (fun x => decide (x ∈ A)) (fun x => decide (x ∈ B)) (upTo n)
  rw [a.lot.filt, b.lot.filt] at hl
  have hl : (orL n A B).length + (andL n A B).length = A.length + B.length := hl
  have xo : x ∈ orL n A B := (mem_orL a.lot b.lot).mpr (.inl xa)
  have xi : x ∈ andL n A B := (mem_andL a.lot).mpr ⟨xa, xb⟩
  have ne1 : orL n A B ≠ [] := fun e => by rw [e] at xo; cases xo
  have ne2 : andL n A B ≠ [] := fun e => by rw [e] at xi; cases xi
  have up1 : (orL n A B).Pairwise (· < ·) := (upTo_up n).filter _
  have up2 : (andL n A B).Pairwise (· < ·) := (upTo_up n).filter _
  refine ⟨⟨ne1, up1, fun y hy => mem_upTo (List.mem_filter.mp hy).1⟩, fun f f0 f1 => ?_⟩
  have h1 := inside_forest (hL.tree f) (rise_nd up1) ne1
  have h2 := inside_forest (hL.tree f) (rise_nd up2) ne2
  have h3 := or_and_inside a.lot b.lot (layerOf ts ws f)
  have h4 := a.tight f f0 f1
  have h5 := b.tight f f0 f1
  omega
/-- a tight lot holds both -/
def Tog (ts : List (Int × Int)) (n k : Int) (ws : List V) (x y : Int) : Prop := ∃ ls, TightL ts n k ws ls ∧ x ∈ ls ∧ y ∈ ls
theorem Tog.symm {x y : Int} (h : Tog ts n k ws x y) : Tog ts n k ws y x := let ⟨l, a, b, c⟩ := h; ⟨l, a, c, b⟩
theorem Tog.trans {x y z : Int} (hL : LayK ts k ws) (h : Tog ts n k ws x y) (g : Tog ts n k ws y z) : Tog ts n k ws x z := by
  obtain ⟨A, a, xa, ya⟩ := h
  obtain ⟨B, b, yb, zb⟩ := g
  exact ⟨orL n A B, a.union hL b ya yb, (mem_orL a.lot b.lot).mpr (.inl xa), (mem_orL a.lot b.lot).mpr (.inr zb)⟩
theorem tight_one (ok : TOk n ts) {x : Int} (x0 : 0 ≤ x) (x1 : x < n) : TightL ts n k ws [x] := ⟨Lot.one x0 x1, fun f _ _ => by rw [inside_one (layerOf_ok ok ws f)]; rfl⟩
open Classical in
/-- all that a tight lot holds with x -/
noncomputable def cT (ts : List (Int × Int)) (n k : Int) (ws : List V) (x : Int) : List Int := (upTo n).filter fun y => decide (Tog ts n k ws x y)
theorem mem_cT {x y : Int} : y ∈ cT ts n k ws x ↔ Tog ts n k ws x y := by
  unfold cT
  constructor
  · intro z
    exact @of_decide_eq_true _ (Classical.propDecidable _) (List.mem_filter.mp z).2
  · intro z
    obtain ⟨l, a, b, c⟩ := z
    exact List.mem_filter.mpr ⟨upTo_mem.mpr (a.lot.ok y c), @decide_eq_true _ (Classical.propDecidable _) ⟨l, a, b, c⟩⟩
theorem cT_up {x : Int} : (cT ts n k ws x).Pairwise (· < ·) := (upTo_up n).filter _
theorem cT_tight (hL : LayK ts k ws) (ok : TOk n ts) {x : Int} (x0 : 0 ≤ x) (x1 : x < n) : TightL ts n k ws (cT ts n k ws x) := by
  have key : ∀ m : Nat, ∃ ls, TightL ts n k ws ls ∧ x ∈ ls ∧ ∀ y, 0 ≤ y → y < (m : Int) → Tog ts n k ws x y → y ∈ ls := by
    intro m
    induction m with
    | zero => exact ⟨[x], tight_one ok x0 x1, List.mem_singleton.mpr rfl, fun y y0 y1 => by omega⟩
    | succ m ih =>
      obtain ⟨A, a, xa, hA⟩ := ih
      by_cases c : Tog ts n k ws x (m : Int)
      · obtain ⟨B, b, xb, mb⟩ := c
        refine ⟨orL n A B, a.union hL b xa xb, (mem_orL a.lot b.lot).mpr (.inl xa), fun y y0 y1 h => ?_⟩
        by_cases e : y = (m : Int)
        · rw [e]; exact (mem_orL a.lot b.lot).mpr (.inr mb)
        · exact (mem_orL a.lot b.lot).mpr (.inl (hA y y0 (by omega) h))
      · refine ⟨A, a, xa, fun y y0 y1 h => ?_⟩
        by_cases e : y = (m : Int)
        · rw [e] at h; exact absurd h c
        · exact hA y y0 (by omega) h
  obtain ⟨A, a, xa, hA⟩ := key n.toNat
  have e : cT ts n k ws x = A := sorted_one cT_up a.lot.up fun y => by
    rw [mem_cT]
    refine ⟨fun h => ?_, fun h => ⟨A, a, xa, h⟩⟩
    obtain ⟨l, b, _, yl⟩ := id h
    have := b.lot.ok y yl
    exact hA y this.1 (by omega) h
  rw [e]
  exact a
theorem apartT (hL : Laid ts k ws) (hk : 0 ≤ k) {ps : List (Int × Int)} {lots : List (List Int)} {rows : List ((Int × Int) × List (Int × Int))} (h : RoomI ts n k ws ps lots rows) : ∀ x ∈ rows, ∀ ls, TightL ts n k ws ls → x.1.1 ∈ ls → x.1.2 ∈ ls → False := fun x hx ls hT h1 h2 => by
  obtain ⟨_, e, es, lv, _, hl⟩ := h.row x hx
  obtain ⟨hP, hN⟩ := push_all hL hl
  have := not_full hP hk hN hT.lot.nd hT.lot.ne
  rw [inside_snoc h1 h2] at this
  have := tight_inside hL hk hT
  omega
theorem head_joined {lots : List (List Int)} {l : List Int} (hl : l ∈ lots) {x : Int} (hx : x ∈ l) : foldR (fun x => x) (joinsF lots) (l.headD 0) = foldR (fun x => x) (joinsF lots) x := by
  cases l with
  | nil => cases hx
  | cons a r =>
    rcases List.mem_cons.mp hx with rfl | hx
    · rfl
    · exact foldR_tie (t := (a, x)) (mem_joins.mpr ⟨a :: r, hl, rfl, hx⟩)
/-- what the told lots join lies in a tight lot, and the other way round -/
theorem joined_iff (hL : Laid ts k ws) (hk : 0 ≤ k) (ok : TOk n ts) {lots : List (List Int)} {rows : List ((Int × Int) × List (Int × Int))} (h : RoomI ts n k ws (pairsL n) lots rows) {x y : Int} (x0 : 0 ≤ x) (x1 : x < n) (y0 : 0 ≤ y) (y1 : y < n) :
    foldR (fun x => x) (joinsF lots) y = foldR (fun x => x) (joinsF lots) x ↔ Tog ts n k ws x y := by
  have lt_case : ∀ {x y : Int}, 0 ≤ x → x < y → y < n → Tog ts n k ws x y → foldR (fun x => x) (joinsF lots) x = foldR (fun x => x) (joinsF lots) y := fun {x y} a0 a1 a2 ⟨ls, hT, hx, hy⟩ => by
    rcases h.cover hL.k (x, y) (pairs_mem.mpr ⟨a0, a1, a2⟩) with ⟨l, hl, h1, h2⟩ | hr
    · exact (head_joined hl h1).symm.trans (head_joined hl h2)
    · obtain ⟨r, hr, e⟩ := List.mem_map.mp hr
      exact (apartT hL hk h r hr ls hT (by rw [e]; exact hx) (by rw [e]; exact hy)).elim
  constructor
  · intro e
    -- a function with the tight lots as its classes
    obtain ⟨g, hg⟩ : ∃ g : Int → List Int, ∀ a, g a = if 0 ≤ a ∧ a < n then cT ts n k ws a else [a] := ⟨_, fun _ => rfl⟩
    have same : ∀ {a b : Int}, 0 ≤ a → a < n → Tog ts n k ws a b → g a = g b := fun {a b} a0 a1 t => by
      have hb : 0 ≤ b ∧ b < n := by obtain ⟨l, q, _, c⟩ := t; exact q.lot.ok b c
      rw [hg a, hg b, if_pos ⟨a0, a1⟩, if_pos hb]
      refine sorted_one cT_up cT_up fun z => ?_
      rw [mem_cT, mem_cT]
      exact ⟨fun q => t.symm.trans hL.k q, fun q => t.trans hL.k q⟩
    have fine : ∀ L : List (Int × Int), (∀ t ∈ L, g t.1 = g t.2) → ∀ (r : Int → Int), (∀ a b, r a = r b → g a = g b) → ∀ a b, foldR r L a = foldR r L b → g a = g b := by
      intro L
      induction L with
      | nil => exact fun _ r hr a b => hr a b
      | cons t L ih =>
        intro hL' r hr a b
        refine ih (fun u hu => hL' u (List.mem_cons_of_mem _ hu)) (rstep r t) (fun a b e => ?_) a b
        have ht := hL' t List.mem_cons_self
        unfold rstep at e
        split at e <;> split at e
        · rename_i h1 h2
          exact hr a b (h1.trans h2.symm)
        · rename_i h1 h2
          exact (hr a _ h1).trans (ht.symm.trans (hr _ b e) |> fun z => by first | exact z | exact (ht.trans (hr _ b e)))
        · rename_i h1 h2
          exact (hr a _ e).trans (by first | exact (ht.trans (hr b _ h2).symm) | exact (ht.symm.trans (hr b _ h2).symm))
        · exact hr a b e
    have e2 := fine (joinsF lots) (fun t ht => by
      obtain ⟨l, hl, e1, hp⟩ := mem_joins.mp ht
      have hT := h.tight hL.k l hl
      have hh := hT.lot.head
      rw [← e1] at hh
      exact same (hT.lot.ok _ hh).1 (hT.lot.ok _ hh).2 ⟨l, hT, hh, List.mem_of_mem_tail hp⟩) (fun x => x) (fun a b e => by rw [e]) y x e
    rw [hg y, hg x, if_pos ⟨y0, y1⟩, if_pos ⟨x0, x1⟩] at e2
    have : y ∈ cT ts n k ws y := mem_cT.mpr ⟨[y], tight_one ok y0 y1, List.mem_singleton.mpr rfl, List.mem_singleton.mpr rfl⟩
    rw [e2] at this
    exact mem_cT.mp this
  · intro t
    rcases Int.lt_trichotomy x y with c | c | c
    · exact (lt_case x0 c y1 t).symm
    · rw [c]
    · exact lt_case y0 c x1 t.symm
end
end FF
namespace FF
open PySem PySem.Spec PyProof.Rows L2
variable [LT]
/-! ### the brims: the greatest tight lots in their order -/
theorem mem_great {L : List (List Int)} {l : List Int} : l ∈ greatF L ↔ l ∈ L ∧ ∀ l' ∈ L, (∀ x ∈ l, x ∈ l') → l = l' := by
  unfold greatF
  rw [List.mem_filter, List.isEmpty_iff, List.filter_eq_nil_iff]
  refine and_congr_right fun _ => forall_congr' fun l' => forall_congr' fun _ => ?_
  unfold inLotB
  rw [Bool.and_eq_true, List.all_eq_true, Bool.not_eq_true', decide_eq_false_iff_not]
  constructor
  · intro h g
    exact Classical.byContradiction fun e => h ⟨e, fun x hx => decide_eq_true (g x hx)⟩
  · rintro h ⟨e, g⟩
    exact e (h fun x hx => of_decide_eq_true (g x hx))
theorem head_min {g : Int → Int} {n m : Int} (hm : m ∈ mins g n) : (piece g n m).headD 0 = m := by
  obtain ⟨h1, h2⟩ := List.mem_filter.mp hm
  have h3 := least_iff.mp h2
  have mp : m ∈ piece g n m := List.mem_filter.mpr ⟨h1, decide_eq_true rfl⟩
  have up : (piece g n m).Pairwise (· < ·) := (upTo_up n).filter _
  have ge : ∀ y ∈ piece g n m, 0 ≤ y ∧ g y = g m := fun y hy => by
    obtain ⟨a, b⟩ := List.mem_filter.mp hy
    exact ⟨(mem_upTo a).1, of_decide_eq_true b⟩
  cases hp : piece g n m with
  | nil => rw [hp] at mp; cases mp
  | cons a r =>
    rw [hp] at mp up ge
    show a = m
    rcases List.mem_cons.mp mp with e | e
    · exact e.symm
    · have := (List.pairwise_cons.mp up).1 m e
      exact absurd (ge a List.mem_cons_self).2 (h3 a (ge a List.mem_cons_self).1 this)
theorem pieces_heads (g : Int → Int) (n : Int) : (piecesF g n).Pairwise fun a b => a.headD 0 < b.headD 0 := by
  unfold piecesF
  rw [List.pairwise_map]
  refine List.Pairwise.imp_of_mem (fun {a b} ha hb h => ?_) ((upTo_up n).filter (least g))
  rw [head_min ha, head_min hb]
  exact h
def bF (lots : List (List Int)) (n : Int) : List (List Int) := (piecesF (foldR (fun x => x) (joinsF lots)) n).filter fun l => decide (1 < l.length)
section
variable {ts : List (Int × Int)} {k : Int} {ws : List V} {m : Nat}
theorem great_cT (hL : LayK ts k ws) (hk : 0 ≤ k) (ok : TOk (m : Int) ts) {l : List Int} (h : l ∈ greatF (tightF m ts k ws)) {x : Int} (hx : x ∈ l) : l = cT ts (m : Int) k ws x := by
  obtain ⟨h1, h2⟩ := mem_great.mp h
  obtain ⟨h3, h4⟩ := (mem_tightF hL hk).mp h1
  have xr := h3.lot.ok x hx
  have hT := cT_tight hL ok xr.1 xr.2
  have hs : ∀ y ∈ l, y ∈ cT ts (m : Int) k ws x := fun y hy => mem_cT.mpr ⟨l, h3, hx, hy⟩
  exact h2 _ ((mem_tightF hL hk).mpr ⟨hT, Nat.le_trans h4 (nd_le h3.lot.nd hs)⟩) hs
theorem cT_great (hL : LayK ts k ws) (hk : 0 ≤ k) (ok : TOk (m : Int) ts) {x : Int} (x0 : 0 ≤ x) (x1 : x < (m : Int)) (h2 : 2 ≤ (cT ts (m : Int) k ws x).length) : cT ts (m : Int) k ws x ∈ greatF (tightF m ts k ws) := by
  have hT := cT_tight hL ok x0 x1
  refine mem_great.mpr ⟨(mem_tightF hL hk).mpr ⟨hT, h2⟩, fun l' hl hs => ?_⟩
  obtain ⟨h3, _⟩ := (mem_tightF hL hk).mp hl
  have xc : x ∈ cT ts (m : Int) k ws x := mem_cT.mpr ⟨[x], tight_one ok x0 x1, List.mem_singleton.mpr rfl, List.mem_singleton.mpr rfl⟩
  exact sorted_one cT_up h3.lot.up fun y => ⟨hs y, fun hy => mem_cT.mpr ⟨l', h3, hs x xc, hy⟩⟩
theorem piece_cT (hL : Laid ts k ws) (hk : 0 ≤ k) (ok : TOk (m : Int) ts) {lots : List (List Int)} {rows : List ((Int × Int) × List (Int × Int))} (h : RoomI ts (m : Int) k ws (pairsL (m : Int)) lots rows) {x : Int} (x0 : 0 ≤ x) (x1 : x < (m : Int)) : piece (foldR (fun x => x) (joinsF lots)) (m : Int) x = cT ts (m : Int) k ws x :=
  sorted_one ((upTo_up _).filter _) cT_up fun y => by
    rw [mem_cT]
    constructor
    · intro hy
      obtain ⟨a, b⟩ := List.mem_filter.mp hy
      exact (joined_iff hL hk ok h x0 x1 (mem_upTo a).1 (mem_upTo a).2).mp (of_decide_eq_true b)
    · intro hy
      have yr : 0 ≤ y ∧ y < (m : Int) := by obtain ⟨l, q, _, c⟩ := hy; exact q.lot.ok y c
      exact List.mem_filter.mpr ⟨upTo_mem.mpr yr, decide_eq_true ((joined_iff hL hk ok h x0 x1 yr.1 yr.2).mpr hy)⟩
theorem brims_mem (hL : Laid ts k ws) (hk : 0 ≤ k) (ok : TOk (m : Int) ts) {lots : List (List Int)} {rows : List ((Int × Int) × List (Int × Int))} (h : RoomI ts (m : Int) k ws (pairsL (m : Int)) lots rows) {l : List Int} : l ∈ bF lots (m : Int) ↔ l ∈ greatF (tightF m ts k ws) := by
  unfold bF
  rw [List.mem_filter, decide_eq_true_eq]
  constructor
  · rintro ⟨h1, h2⟩
    obtain ⟨x, hx, rfl⟩ := List.mem_map.mp h1
    have xr := mem_upTo (List.mem_filter.mp hx).1
    rw [piece_cT hL hk ok h xr.1 xr.2] at h2 ⊢
    exact cT_great hL.k hk ok xr.1 xr.2 h2
  · intro hl
    obtain ⟨h3, h4⟩ := (mem_tightF hL.k hk).mp (mem_great.mp hl).1
    have hh := h3.lot.head
    have hr := h3.lot.ok _ hh
    refine ⟨?_, h4⟩
    obtain ⟨l', hl', hx'⟩ := pieces_has (g := foldR (fun x => x) (joinsF lots)) hr.1 hr.2
    obtain ⟨x, hx, rfl⟩ := List.mem_map.mp hl'
    have xr := mem_upTo (List.mem_filter.mp hx).1
    have e1 := great_cT hL.k hk ok hl hh
    rw [piece_cT hL hk ok h xr.1 xr.2] at hx'
    have t := mem_cT.mp hx'
    have : cT ts (m : Int) k ws x = cT ts (m : Int) k ws (l.headD 0) := sorted_one cT_up cT_up fun z => by
      rw [mem_cT, mem_cT]
      exact ⟨fun q => t.symm.trans hL.k q, fun q => t.trans hL.k q⟩
    rw [e1, ← this, ← piece_cT hL hk ok h xr.1 xr.2]
    exact hl'
theorem by_heads {c : Int → List Int} {S : List (List Int)} (h : ∀ l ∈ S, l = c (l.headD 0)) : S = (S.map fun l => l.headD 0).map c := by
  rw [List.map_map]
  conv => lhs; rw [← List.map_id S]
  exact List.map_congr_left fun l hl => h l hl
theorem brims_sorted (hL : Laid ts k ws) (hk : 0 ≤ k) (ok : TOk (m : Int) ts) {lots : List (List Int)} {rows : List ((Int × Int) × List (Int × Int))} (h : RoomI ts (m : Int) k ws (pairsL (m : Int)) lots rows) {S : List (List Int)} (nd : (greatF (tightF m ts k ws)).Nodup) (hS : S.Perm (greatF (tightF m ts k ws))) (hO : S.Pairwise fun a b => ¬ b.headD 0 < a.headD 0) : S = bF lots (m : Int) := by
  have hc : ∀ l ∈ greatF (tightF m ts k ws), l = cT ts (m : Int) k ws (l.headD 0) := fun l hl => by
    obtain ⟨h3, _⟩ := (mem_tightF hL.k hk).mp (mem_great.mp hl).1
    exact great_cT hL.k hk ok hl h3.lot.head
  have hcS : ∀ l ∈ S, l = cT ts (m : Int) k ws (l.headD 0) := fun l hl => hc l (hS.mem_iff.mp hl)
  have hcB : ∀ l ∈ bF lots (m : Int), l = cT ts (m : Int) k ws (l.headD 0) := fun l hl => hc l ((brims_mem hL hk ok h).mp hl)
  have ndS : S.Nodup := hS.nodup_iff.mpr nd
  have upS : (S.map fun l => l.headD 0).Pairwise (· < ·) := by
    rw [List.pairwise_map]
    refine List.Pairwise.imp_of_mem (fun {a b} ha hb q => ?_) (hO.and ndS)
    have : a.headD 0 ≠ b.headD 0 := fun e => q.2 (by rw [hcS a ha, hcS b hb, e])
    have := q.1
    omega
  have upB : ((bF lots (m : Int)).map fun l => l.headD 0).Pairwise (· < ·) := by
    rw [List.pairwise_map]
    exact (pieces_heads _ _).filter _
  rw [by_heads hcS, by_heads hcB, sorted_one upS upB fun x => ?_]
  rw [List.mem_map, List.mem_map]
  constructor
  · rintro ⟨l, hl, e⟩
    exact ⟨l, (brims_mem hL hk ok h).mpr (hS.mem_iff.mp hl), e⟩
  · rintro ⟨l, hl, e⟩
    exact ⟨l, hS.mem_iff.mpr ((brims_mem hL hk ok h).mp hl), e⟩
/-- no two of them share a point -/
theorem brims_apart (hL : LayK ts k ws) (hk : 0 ≤ k) (ok : TOk (m : Int) ts) {l l' : List Int} (h : l ∈ greatF (tightF m ts k ws)) (h' : l' ∈ greatF (tightF m ts k ws)) {x : Int} (hx : x ∈ l) (hx' : x ∈ l') : l = l' := by
  rw [great_cT hL hk ok h hx, great_cT hL hk ok h' hx']
end
end FF
namespace FF
open PySem PySem.Spec PyProof.Rows L2
variable [LT]
/-! ### sum(lists, []) -/
theorem args_sum2 (a b : Value) : argsOk "sum" ⟨[a, b], []⟩ := by unfold argsOk; kernel_rfl
theorem sub_list_str' : isSubtype (.type "list") (.type "str") = pure false := by rw [isSubtype_type]; kernel_rfl
theorem sub_list_bytes' : isSubtype (.type "list") (.type "bytes") = pure false := by rw [isSubtype_type]; kernel_rfl
theorem sub_list_bytearray' : isSubtype (.type "list") (.type "bytearray") = pure false := by rw [isSubtype_type]; kernel_rfl
def LisP (H : Hp) (xs : List V) (ls : List (List V)) : Prop := Paired (fun (x : V) (l : List V) => ∃ q, x = .ref q ∧ H q = some (.lst l)) xs ls
def rSumL (K : PySem.W.Frag) : List V → Hp → VK → Prop := fun vs H Q => ∃ (a b : Addr) (xs : List V) (ls : List (List V)), vs = [V.ref a, V.ref b] ∧ SqL K H a xs ∧ LisP H xs ls ∧ H b = some (.lst []) ∧ ls.flatten.length ≤ sizeLine ∧
  ∀ p H', Ke H H' → H' p = some (.lst ls.flatten) → Q (.ref p) H'
theorem LisP.get {H : Hp} : ∀ {rs : List V} {ps : List (List V)} {i : Nat} {r : V}, LisP H rs ps → rs[i]? = some r → ∃ ls q, ps[i]? = some ls ∧ r = .ref q ∧ H q = some (.lst ls)
  | _, _, _, _, .nil, e => by simp at e
  | _, _, 0, _, .cons (b := t) ⟨q, e1, e2⟩ _, e => by simp at e; subst e; exact ⟨t, q, rfl, e1, e2⟩
  | _, _, i + 1, r, .cons _ t, e => by
    obtain ⟨u, q, h1, h2, h3⟩ := LisP.get (i := i) (r := r) t (by simpa using e)
    exact ⟨u, q, by simpa using h1, h2, h3⟩
theorem flat_take (ls : List (List V)) (i : Nat) : (ls.take i).flatten.length ≤ ls.flatten.length := by
  conv => rhs; rw [← List.take_append_drop i ls, List.flatten_append, List.length_append]
  omega
section
variable {X : Cx}
abbrev inX (X : Cx) : Cx := { X with A := X.A.in1, xe := fun _ _ => False }
theorem toInX {pins : List (Addr × Obj)} {σ : L2.St} {H : Hp} {s : Shared} (I : L2.Inv X pins σ H s) (hd : X.A.handled = none) : L2.Inv (inX X) pins σ H s :=
  ⟨⟨I.ok.mod, I.ok.kind, I.ok.glob, I.ok.blt, I.ok.above, I.ok.inj, I.ok.has, I.ok.cab, fun _ => hd, I.ok.frames, I.ok.stk, I.ok.exf, I.ok.bs, I.ok.bsz, I.ok.noex, I.ok.exfs, I.ok.funs, I.ok.frf⟩, I.os, I.bare, I.base, I.loc, I.cell, I.free, I.freeC, I.pin, I.hok, I.len⟩
theorem ofInX {pins : List (Addr × Obj)} {σ : L2.St} {H : Hp} {s : Shared} (o : X.Ok) (I : L2.Inv (inX X) pins σ H s) : L2.Inv X pins σ H s :=
  ⟨o, I.os, I.bare, I.base, I.loc, I.cell, I.free, I.freeC, I.pin, I.hok, I.len⟩
theorem sumL_loop (hc : X.calm = true) {pins : List (Addr × Obj)} {σ : L2.St} {H : Hp} {a it S : Addr} {xs : List V} {ls : List (List V)} {R : Result → Shared → Prop} (hx : SqL X.K H a xs) (hl : LisP H xs ls) (hz : ls.flatten.length ≤ sizeLine) (hne : it ≠ S)
    (fin : ∀ t H' s', L2.Inv X pins σ H' s' → Ke H H' → H' t = some (.lst ls.flatten) → R (.ok (.ret (.ref t))) s') :
    ∀ (k i : Nat) (s : Shared) (H1 : Hp) (t : Addr) (c : Nat), xs.length - i = k → i ≤ xs.length → L2.Inv X pins σ H1 s → Ke H H1 → H1 t = some (.lst (ls.take i).flatten) → s.heap.IsListIter it a i → s.heap.get? S = some { cls := .type "list", dict := none, data := .seq #[.ref t] c, slots := #[] } → FpOk X pins H1 it → FpOk X pins H1 S →
      codeAny (model X.prog X.w) X.A (.builtin "sum.loop" ⟨[.ref it, .ref S, rawInt 2, rawInt 0], []⟩) R s := by
  have hll : xs.length = ls.length := Paired.length hl
  intro k
  induction k with
  | zero =>
    intro i s H1 t c hk hi I kH ht st hS fi fS
    have ei : i = xs.length := by omega
    subst ei
    refine codeAny_builtin F.entry_sum_loop ?_
    rw [Around.under_plainId F.plain_sum_loop _]
    show wpAny _ X.A.in1 (seqItems? (.ref S) >>= _) _ _ s
    refine wpAny_bind (wpAny_seqItems hS rfl ?_)
    show wpAny _ X.A.in1 (tryCatch (pyNext (.ref it)) _ >>= _) _ _ s
    have hx1 : SqL X.K H1 a xs := Kx.seqL kH hx fun z => z
    obtain ⟨its, rv, p, _⟩ := I.list hx1
    obtain ⟨f0, f1, f2, f3, f4, f5⟩ := fi
    have hlen := rv.length
    refine wpAny_bind (wpAny_tryCatch (wpAny_pyNext_list_end (A := X.A.in1) (I.ok.hd hc) st p.isList (by simp; omega) fun h' eb => ?_))
    have I1 : L2.Inv X pins σ H1 { s with heap := h' } := I.turned (t' := s.toks) (fun b o hb e => eb b o hb e) f0 f1 f3 f4 f5
    refine wpAny_pure (fin t H1 _ I1 kH ?_)
    rw [ht, hll, List.take_length]
  | succ k ih =>
    intro i s H1 t c hk hi I kH ht st hS fi fS
    have hlt : i < xs.length := by omega
    refine codeAny_builtin F.entry_sum_loop ?_
    rw [Around.under_plainId F.plain_sum_loop _]
    show wpAny _ X.A.in1 (seqItems? (.ref S) >>= _) _ _ s
    refine wpAny_bind (wpAny_seqItems hS rfl ?_)
    show wpAny _ X.A.in1 (tryCatch (pyNext (.ref it)) _ >>= _) _ _ s
    have hx1 : SqL X.K H1 a xs := Kx.seqL kH hx fun z => z
    obtain ⟨its, rv, p, _⟩ := I.list hx1
    obtain ⟨l, q, el, ex, hq⟩ := hl.get (List.getElem?_eq_getElem hlt)
    obtain ⟨u, hu, ru⟩ := rv.get (List.getElem?_eq_getElem hlt)
    rw [ex] at ru
    obtain rfl : u = Value.ref q := ru
    have hq1 := kH.lst hq
    obtain ⟨f0, f1, f2, f3, f4, f5⟩ := id fi
    refine wpAny_bind (wpAny_tryCatch (wpAny_pyNext_list_item (A := X.A.in1) st p.isList (x := Value.ref q) (by simpa using hu) fun h' st' sb => ?_))
    have I1 : L2.Inv X pins σ H1 { s with heap := h' } := I.turned (t' := s.toks) (fun b o hb e => (sb.2 b hb).trans e) f0 f1 f3 f4 f5
    have hS1 : h'.get? S = some { cls := .type "list", dict := none, data := .seq #[.ref t] c, slots := #[] } := (sb.2 S (Ne.symm hne)).trans hS
    show wpAny _ X.A.in1 ((holding [Value.ref q] (binaryOp .Add (.ref t) (.ref q))).attempt >>= _) _ _ _
    have I1x := toInX I1 (I.ok.hd hc)
    obtain ⟨oi, ei1, ei2, ei3⟩ := id st'
    have Ip := I1x.pinned (fp := [it, S]) (fun b hb => by
      rcases List.mem_cons.mp hb with rfl | hb
      · exact fi
      · rw [List.mem_singleton.mp hb]; exact fS) (fun b hb => by
      rcases List.mem_cons.mp hb with rfl | hb
      · exact ⟨oi, ei1, fun v z => by rw [ei3] at z; cases z⟩
      · rw [List.mem_singleton.mp hb]; exact ⟨_, hS1, fun v z => by cases z⟩)
    have fl : (ls.take (i + 1)).flatten = (ls.take i).flatten ++ l := by rw [take_next el, List.flatten_append]; simp
    have flz := flat_take ls (i + 1)
    rw [fl, List.length_append] at flz
    have hcat := op_cat (X := inX X) (Q := fun y G => ∃ z, y = .ref z ∧ Ke H1 G ∧ G z = some (.lst ((ls.take i).flatten ++ l))) _ _ _ _ (V.ref t) (V.ref q) (Value.ref t) (Value.ref q) Ip rfl rfl ⟨t, q, _, _, rfl, rfl, ht, hq1, by omega, fun z nz => ⟨z, rfl, Ke.new nz, upd_same⟩⟩
    refine wpAny_bind (wpAny_attempt (wpAny_holding (thnF hcat fun r s2 ⟨y, H2, I2, ry, z, ey, kz, hz2⟩ => ?_)))
    subst ey
    obtain rfl : r = Value.ref z := ry
    have pin2 : ∀ b ∈ [it, S], ∀ o, h'.get? b = some o → s2.heap.get? b = some o ∧ H2 b = none := fun b hb o e =>
      let w := I2.pin (b, o) (List.mem_append_right _ (List.mem_append_right _ (mem_pinsAt (h := ({ s with heap := h' } : Shared).heap) hb e)))
      ⟨w.1, w.2.1⟩
    obtain ⟨hS2, nS2⟩ := pin2 S (by simp) _ hS1
    obtain ⟨hi2, ni2⟩ := pin2 it (by simp) _ ei1
    have st2 : s2.heap.IsListIter it a (i + 1) := ⟨oi, hi2, ei2, ei3⟩
    have I3 : L2.Inv X pins σ H2 s2 := ofInX I.ok I2.unpinned
    show wpAny _ X.A.in1 (updateSeq S (fun _ => #[Value.ref z]) >>= _) _ _ _
    refine wpAny_bind (wpAny_updateSeq hS2 rfl ?_)
    have hS3 := Heap.get?_update_self (Obj.mapSeq fun _ => #[Value.ref z]) hS2 rfl
    obtain ⟨g0, g1, g2, g3, g4, g5⟩ := id fS
    refine wpAny_bind (wpAny_letGo ?_)
    refine wpAny_bind (wpAny_updateSeq hS3 rfl ?_)
    have hS4 := Heap.get?_update_self (Obj.mapSeq fun _ => #[Value.ref z]) hS3 rfl
    have oth : ∀ b o, b ≠ S → s2.heap.get? b = some o → ((s2.heap.update S (Obj.mapSeq fun _ => #[Value.ref z])).update S (Obj.mapSeq fun _ => #[Value.ref z])).get? b = some o := fun b o hb e => (Heap.get?_update_other _ _ (Ne.symm hb)).trans ((Heap.get?_update_other _ _ (Ne.symm hb)).trans e)
    have I4 : L2.Inv X pins σ H2 { s2 with heap := (s2.heap.update S (Obj.mapSeq fun _ => #[Value.ref z])).update S (Obj.mapSeq fun _ => #[Value.ref z]) } := I3.turned (t' := s2.toks) (fun b o hb e => oth b o hb e) nS2 g1 g3 g4 g5
    exact wpAny_pure ⟨plainId_quiet F.plain_sum_loop _, ih (i + 1) _ H2 z _ (by omega) (by omega) I4 (kH.trans kz) (by rw [fl]; exact hz2) ⟨oi, oth it oi hne hi2, ei2, ei3⟩ hS4 ⟨ni2, fi.2⟩ ⟨nS2, fS.2⟩⟩
theorem cr_sumL (hc : X.calm = true) {K : PySem.W.Frag} (hK : X.K = K := by rfl) : CallR X (.builtin "sum") (rSumL K) := by
  subst hK
  intro pins s σ H vs us Q I r hq
  obtain ⟨a, b, xs, ls, rfl, hx, hl, hb, hz, q⟩ := hq
  obtain ⟨its, rv, p, _⟩ := I.list hx
  obtain ⟨ua, ub, rfl, ra, rb⟩ : ∃ ua ub, us = [ua, ub] ∧ RelV (V.ref a) ua ∧ RelV (V.ref b) ub := by
    cases r with
    | cons r1 r => cases r with
      | cons r2 r => cases r; exact ⟨_, _, rfl, r1, r2⟩
  obtain rfl : ua = Value.ref a := ra
  obtain rfl : ub = Value.ref b := rb
  obtain ⟨zb, itsb, nb, rb2, hlb, eb⟩ := I.lstM hb
  refine call_function_tree F.kind_sum F.plain_sum F.entry_sum (args_sum2 _ _) ?_
  unfold Builtin.«sum»
  simp only [List.length_cons, List.length_nil]
  rw [if_neg (by decide)]
  refine wpAny_bind (wpAny_of_eq (show Builtin.Builtins.bindParams "sum" ["start"] 0 { pos := [Value.ref b] } = pure [some (Value.ref b)] from rfl) ?_)
  refine wpAny_bind (wpAny_pyIter_list p.isList ?_)
  refine wpAny_bind (wpAny_pure ?_)
  have hty : ({ s with heap := s.heap.push { cls := .type "list_iterator", data := .fields #[.ref a, rawInt 0] } } : Shared).TypeIs (.ref b) "list" := ⟨_, Heap.get?_push_of_some _ eb, rfl⟩
  simp only [List.forIn_cons, List.forIn_nil]
  refine wpAny_bind (wpAny_bind (wpAny_bind (wpAny_isInstance (T := "list") (b := false) hty sub_list_str' ?_)))
  simp only [Bool.false_eq_true, if_false]
  refine wpAny_pure (wpAny_bind (wpAny_bind (wpAny_isInstance (T := "list") (b := false) hty sub_list_bytes' ?_)))
  simp only [Bool.false_eq_true, if_false]
  refine wpAny_pure (wpAny_bind (wpAny_bind (wpAny_isInstance (T := "list") (b := false) hty sub_list_bytearray' ?_)))
  simp only [Bool.false_eq_true, if_false]
  refine wpAny_pure (wpAny_pure ?_)
  refine wpAny_bind (wpAny_newObj_type ?_)
  have I1 : L2.Inv X pins σ H { s with heap := s.heap.push { cls := .type "list_iterator", data := .fields #[.ref a, rawInt 0] } } := I.kept (t' := s.toks) fun b o e => Heap.get?_push_of_some _ e
  have I2 : L2.Inv X pins σ H { s with heap := (s.heap.push { cls := .type "list_iterator", data := .fields #[.ref a, rawInt 0] }).push { cls := .type "list", data := .seq #[.ref b] } } := I1.kept (t' := s.toks) fun b o e => Heap.get?_push_of_some _ e
  have n1 : H s.heap.objs.size = none := I.hok.fresh (Nat.le_refl _)
  have sz : (s.heap.push { cls := .type "list_iterator", data := .fields #[.ref a, rawInt 0] }).objs.size = s.heap.objs.size + 1 := Heap.size_push _ _
  have n2 : H (s.heap.push { cls := .type "list_iterator", data := .fields #[.ref a, rawInt 0] }).objs.size = none := I.hok.fresh (by rw [sz]; exact Nat.le_succ _)
  refine wpAny_pure ⟨plainId_quiet F.plain_sum_loop _, sumL_loop hc (H := H) (xs := xs) (ls := ls) hx hl hz (fun e => absurd (e.trans sz) (Nat.ne_of_lt (Nat.lt_succ_self _))) (fun t H' s' I' k' ht => ⟨.ref t, H', I', rfl, q t H' k' ht⟩) _ 0 _ H b 0 rfl (Nat.zero_le _) I2 .refl (by rw [List.take_zero]; exact hb) ⟨_, Heap.get?_push_of_some _ (Heap.get?_push_size _ rfl), rfl, rfl⟩ (Heap.get?_push_size _ rfl) (I.fpOk (Nat.le_refl _) n1) (I.fpOk (Nat.le_trans (Nat.le_succ _) (Nat.le_of_eq sz.symm)) n2)⟩
end
end FF
namespace FF
open PySem PySem.Spec PyProof.Rows L2
variable [LT]
/-! ### sorted of a list of lots, with its order -/
theorem lotsF_nd : ∀ n : Nat, (lotsF n).Nodup
  | 0 => List.nodup_cons.mpr ⟨List.not_mem_nil, .nil⟩
  | n + 1 => by
    have ih := lotsF_nd n
    refine List.nodup_append.mpr ⟨ih, ?_, fun a ha b hb e => ?_⟩
    · rw [List.Nodup, List.pairwise_map]
      exact ih.imp fun h e => h (List.append_cancel_right e)
    · subst e
      obtain ⟨l', _, rfl⟩ := List.mem_map.mp hb
      have := (lotsF_ok n _ ha).2.1 (n : Int) (List.mem_append_right _ (List.mem_singleton.mpr rfl))
      omega
theorem great_nd {n : Nat} {ts : List (Int × Int)} {k : Int} {ws : List V} : (greatF (tightF n ts k ws)).Nodup := (((lotsF_nd n).filter _).filter _).filter _
theorem toks_head (a : Int) (r : List Int) : PySem.W.keyToks (.tuple ((a :: r).map PyData.int)) = .inl 1 :: .inl a :: PySem.W.keyToksAll (r.map PyData.int) := by
  rw [PySem.W.keyToks, List.map_cons, PySem.W.keyToksAll, PySem.W.keyToks]
  rfl
def intsV (H : Hp) (v : Value) : List Int := match v with
  | .ref t => match H t with
    | some (.tup xs) => xs.filterMap fun x => match x with | .int i => some i | _ => none
    | _ => []
  | _ => []
theorem ints_back (ns : List Int) : (ns.map V.int).filterMap (fun x => match x with | .int i => some i | _ => none) = ns := by
  rw [List.filterMap_map]
  exact List.filterMap_some
theorem intsV_of {H : Hp} {t : Addr} {ns : List Int} (h : H t = some (.tup (ns.map V.int))) : intsV H (.ref t) = ns := by
  unfold intsV
  simp only [h]
  exact ints_back ns
theorem lots_pairs {H : Hp} : ∀ L : List (Value × List Int), (∀ b ∈ L, ∃ t, b.1 = Value.ref t ∧ H t = some (.tup (b.2.map V.int))) → Lots H (L.map fun b => backV b.1) (L.map Prod.snd)
  | [], _ => .nil
  | b :: L, h => by
    obtain ⟨t, e, ht⟩ := h b List.mem_cons_self
    refine .cons ⟨t, by show backV b.1 = _; rw [e]; rfl, ht⟩ (lots_pairs L fun x hx => h x (List.mem_cons_of_mem _ hx))
theorem lots_ints {H : Hp} : ∀ {its : List Value} {lots : List (List Int)}, (∀ v ∈ its, ∃ t, v = Value.ref t) → Lots H (its.map backV) lots → lots = its.map (intsV H)
  | [], [], _, _ => rfl
  | v :: its, l :: lots, h, hL => by
    cases hL with
    | cons h1 h2 =>
      obtain ⟨t, rfl⟩ := h v List.mem_cons_self
      obtain ⟨q, e, hq⟩ := h1
      cases e
      rw [List.map_cons, intsV_of hq, ← lots_ints (fun u hu => h u (List.mem_cons_of_mem _ hu)) h2]
def rSortedL (K : PySem.W.Frag) : List V → Hp → VK → Prop := fun vs H Q => ∃ (a : Addr) (xs : List V) (lots : List (List Int)), vs = [V.ref a] ∧ SqL K H a xs ∧ Lots H xs lots ∧ (∀ l ∈ lots, l ≠ []) ∧
  ∀ ys ms p, Lots H ys ms → ms.Perm lots → ms.Pairwise (fun a b => ¬ b.headD 0 < a.headD 0) → H p = none → Q (.ref p) (upd H p (.lst ys))
theorem cr_sortedL {X : Cx} (hu : X.A.units + 64 < cLine) : CallR X (.builtin "sorted") (rSortedL X.K) := by
  intro pins s σ H vs us Q I r h
  obtain ⟨a, xs, lots, rfl, hs, hL, hne, q⟩ := h
  obtain ⟨its, rv, hl, hz⟩ := I.list hs
  obtain ⟨u, rfl, ru⟩ := vals1 r
  obtain rfl : u = Value.ref a := ru
  have hx := hL.tys
  obtain ⟨e1, e2⟩ := refs_back rv fun x m => by
    obtain ⟨_, t, _, e, _⟩ := hx x m
    exact ⟨t, e⟩
  have hv : ∀ v ∈ its, ∃ t, v = Value.ref t ∧ H t = some (.tup ((intsV H v).map V.int)) ∧ intsV H v ≠ [] := fun v hv => by
    obtain ⟨t, rfl⟩ := e2 v hv
    have hm : V.ref t ∈ xs := by rw [e1]; exact List.mem_map.mpr ⟨_, hv, rfl⟩
    obtain ⟨ns, t', hn, e, ht⟩ := hx _ hm
    cases e
    rw [intsV_of ht]
    exact ⟨t, rfl, ht, hne ns hn⟩
  let g : Value → Value × List Int := fun v => (v, intsV H v)
  have hg : ∀ v ∈ its, ∃ as, PySem.Reads s.heap v (.tuple ((g v).2.map PyData.int)) as := fun v h => by
    obtain ⟨t, rfl, ht, _⟩ := hv v h
    obtain ⟨_, its2, r2, o, ho, hc, n, hd⟩ := I.hok _ _ ht
    exact ⟨_, .tuple ho hc hd (reads_ints r2)⟩
  refine PySem.W.sorted_data (R := fun v (b : Value × List Int) => v = b.1) (enc := fun b : Value × List Int => PyData.tuple (b.2.map .int)) (bs := its.map g) hl.isList (each_fun g fun v _ => rfl) (each_fun g fun v h => hg v h) (PySem.W.AllAlike.of fun b b' => ?_) (.inl fun x hx => ?_) (by rw [List.length_map, ← rv.length]; exact hz) (fun b _ => ?_) fun out ho he => ?_
  · show PySem.W.alike (.tuple _) (.tuple _) = true
    rw [PySem.W.alike]
    exact PySem.W.alike_ints _ _
  · obtain ⟨b, hb, rfl⟩ := List.mem_map.mp hx
    obtain ⟨v, hv', rfl⟩ := List.mem_map.mp hb
    obtain ⟨_, _, _, hn⟩ := hv v hv'
    cases hc : intsV H v with
    | nil => exact absurd hc hn
    | cons y r => exact ⟨_, _, by show PyData.tuple ((intsV H v).map PyData.int) = _; rw [hc]; rfl⟩
  · show X.A.units + 2 + (PyData.depth (.tuple _)) < _
    rw [PyData.depth, PySem.W.depth_ints]
    omega
  · obtain ⟨srt, esrt⟩ : ∃ srt, srt = (its.map g).mergeSort (PySem.W.dataLe false fun b : Value × List Int => PyData.tuple (b.2.map .int)) := ⟨_, rfl⟩
    rw [← esrt] at he
    have eo : out = srt.map Prod.fst := each_fst he
    have hp : srt.Perm (its.map g) := by rw [esrt]; exact List.mergeSort_perm _ _
    have hb : ∀ b ∈ srt, ∃ t, b.1 = Value.ref t ∧ H t = some (.tup (b.2.map V.int)) ∧ b.2 ≠ [] := fun b hb => by
      obtain ⟨v, hv', rfl⟩ := List.mem_map.mp (hp.mem_iff.mp hb)
      obtain ⟨t, rfl, ht, hn⟩ := hv v hv'
      exact ⟨t, rfl, ht, hn⟩
    have h3 : ∀ u ∈ out, ∃ a, u = Value.ref a := fun u hu => by
      rw [eo] at hu
      obtain ⟨b, hb', rfl⟩ := List.mem_map.mp hu
      obtain ⟨t, e, _⟩ := hb b hb'
      exact ⟨t, e⟩
    have hord : srt.Pairwise fun a b => PySem.W.dataLe false (fun b : Value × List Int => PyData.tuple (b.2.map .int)) a b = true := by
      rw [esrt]
      have tot := PySem.W.sortLe_total (PyProof.Rows.listOrd PyProof.Rows.itemOrd) false fun b : Value × List Int => PySem.W.keyToks (PyData.tuple (b.2.map .int))
      exact List.pairwise_mergeSort (fun a b c h1 h2 => tot.trans a b c h1 h2) (fun a b => Bool.or_eq_true_iff.mpr (tot.total a b)) _
    obtain ⟨n, hn⟩ := PyProof.Rows.sortedAll_at s.heap its (List.toArray out)
    have hd : s.heap.objs.size ≤ s.heap.objs.size + 1 := Nat.le_succ _
    have hol : out.length = its.length := by rw [ho, List.length_map]
    have hq : Lots H (out.map backV) (srt.map Prod.snd) := by
      rw [eo, List.map_map]
      exact lots_pairs srt fun b h => let ⟨t, a1, a2, _⟩ := hb b h; ⟨t, a1, a2⟩
    have elots : lots = its.map (intsV H) := lots_ints e2 (by rw [← e1]; exact hL)
    refine ⟨.ref (s.heap.objs.size + 1), upd H (s.heap.objs.size + 1) (.lst (out.map backV)), I.laid (t' := s.toks) (fun _ _ => PyProof.Rows.sortedAll_old) hd ⟨?_, out, n, vals_back h3, hn⟩, rfl, q _ (srt.map Prod.snd) _ hq ?_ ?_ (I.hok.fresh hd)⟩
    · rw [List.length_map, hol, ← rv.length]; exact hz
    · rw [elots]
      refine (hp.map Prod.snd).trans ?_
      rw [List.map_map]
      exact .refl _
    · rw [List.pairwise_map]
      refine List.Pairwise.imp_of_mem (fun {a b} ha hb' h => ?_) hord
      obtain ⟨_, _, _, na⟩ := hb a ha
      obtain ⟨_, _, _, nb⟩ := hb b hb'
      intro hlt
      cases ea : a.2 with
      | nil => exact absurd ea na
      | cons x r =>
        cases eb : b.2 with
        | nil => exact absurd eb nb
        | cons y r' =>
          rw [ea, eb] at hlt
          have hlt : y < x := hlt
          have h : (!PyProof.Rows.lexLt PyProof.Rows.itemOrd (PySem.W.keyToks (.tuple (b.2.map PyData.int))) (PySem.W.keyToks (.tuple (a.2.map PyData.int)))) = true := h
          rw [ea, eb, toks_head, toks_head] at h
          simp [PyProof.Rows.lexLt, PyProof.Rows.itemLt, PyProof.Rows.itemOrd, hlt] at h
end FF
namespace FF
open PySem PySem.Spec PyProof.Rows L2
variable [LT]
/-- a web, forests, a laying and its brims as told -/
def AskB (H : Hp) (y : V) : Prop := ∃ (q : Addr) (v : V) (n : Int) (ts : List (Int × Int)) (k : Int) (u : Addr) (ws : List V) (x : Addr) (xs : List V) (lots : List (List Int)) (rows : List ((Int × Int) × List (Int × Int))), y = .ref q ∧ H q = some (.tup [v, .int k, .ref u, .ref x]) ∧ Web H v n ts ∧ TOk n ts ∧ 1 ≤ n ∧ n ≤ 16 ∧ ts.length ≤ 119 ∧ 0 ≤ k ∧ k ≤ 1000 ∧ H u = some (.tup ws) ∧ LayK ts k ws ∧ H x = some (.tup xs) ∧ Lots H xs (bF lots n) ∧ RoomI ts n k ws (pairsL n) lots rows
theorem AskB.mono {H H' : Hp} {y : V} (h : AskB H y) (k : ∀ q xs, H q = some (.tup xs) → H' q = some (.tup xs)) : AskB H' y := by
  obtain ⟨q, v, n, ts, k', u, ws, x, xs, lots, rows, e, h1, W, a1, a2, a3, a4, a5, a6, h2, a7, hx, hL, hI⟩ := h
  exact ⟨q, v, n, ts, k', u, ws, x, xs, lots, rows, e, k _ _ h1, W.mono k, a1, a2, a3, a4, a5, a6, k _ _ h2, a7, k _ _ hx, hL.mono k, hI⟩
theorem flat_nd : ∀ {L : List (List Int)}, (∀ l ∈ L, l.Nodup) → L.Pairwise (fun a b => ∀ x ∈ a, x ∉ b) → L.flatten.Nodup
  | [], _, _ => List.nodup_nil
  | l :: L, h, p => by
    obtain ⟨p1, p2⟩ := List.pairwise_cons.mp p
    rw [List.flatten_cons]
    refine List.nodup_append.mpr ⟨h l List.mem_cons_self, flat_nd (fun x hx => h x (List.mem_cons_of_mem _ hx)) p2, fun x hx y hy e => ?_⟩
    subst e
    obtain ⟨l', hl', hx'⟩ := List.mem_flatten.mp hy
    exact p1 l' hl' x hx hx'
theorem bF_flat {ts : List (Int × Int)} {k : Int} {ws : List V} {m : Nat} (hL : Laid ts k ws) (hk : 0 ≤ k) (ok : TOk (m : Int) ts) {lots : List (List Int)} {rows : List ((Int × Int) × List (Int × Int))} (h : RoomI ts (m : Int) k ws (pairsL (m : Int)) lots rows) : (bF lots (m : Int)).flatten.Nodup := by
  refine flat_nd (fun l hl => ((mem_tightF hL.k hk).mp (mem_great.mp ((brims_mem hL hk ok h).mp hl)).1).1.lot.nd) ?_
  refine List.Pairwise.imp_of_mem (fun {a b} ha hb q x hx hx' => ?_) ((pieces_heads (foldR (fun x => x) (joinsF lots)) (m : Int)).filter fun l => decide (1 < l.length))
  have := brims_apart hL.k hk ok ((brims_mem hL hk ok h).mp ha) ((brims_mem hL hk ok h).mp hb) hx hx'
  rw [this] at q
  omega
theorem flat_ints' : ∀ ls : List (List Int), (ls.map fun l => l.map V.int).flatten = ls.flatten.map V.int
  | [] => rfl
  | l :: r => by rw [List.map_cons, List.flatten_cons, flat_ints' r, List.flatten_cons, List.map_append]
/-- lists of ints, none of them D -/
def LsQ (D : Addr) (H : Hp) (zs : List V) (ls : List (List Int)) : Prop := Paired (fun (x : V) (l : List Int) => ∃ q, x = .ref q ∧ q ≠ D ∧ H q = some (.lst (l.map V.int))) zs ls
theorem LsQ.mono {D : Addr} {H H' : Hp} {zs : List V} {ls : List (List Int)} (h : LsQ D H zs ls) (k : ∀ q xs, q ≠ D → H q = some (.lst xs) → H' q = some (.lst xs)) : LsQ D H' zs ls := L2.Paired.mapP h fun _ _ ⟨q, e, n, z⟩ => ⟨q, e, n, k q _ n z⟩
theorem LsQ.length {D : Addr} {H : Hp} {zs : List V} {ls : List (List Int)} (h : LsQ D H zs ls) : zs.length = ls.length := Paired.length h
theorem LsQ.append {D : Addr} {H : Hp} : ∀ {rs qs : List V} {ps us : List (List Int)}, LsQ D H rs ps → LsQ D H qs us → LsQ D H (rs ++ qs) (ps ++ us)
  | _, _, _, _, .nil, b => b
  | _, _, _, _, .cons r t, b => .cons r (LsQ.append t b)
theorem LsQ.lis {D : Addr} {H : Hp} : ∀ {zs : List V} {ls : List (List Int)}, LsQ D H zs ls → LisP H zs (ls.map fun l => l.map V.int)
  | _, _, .nil => .nil
  | _, _, .cons ⟨q, e, _, h⟩ t => .cons ⟨q, e, h⟩ (LsQ.lis t)
theorem sum_lens : ∀ L : List (List Int), (L.map fun l => (l.length : Int)).sum = (L.flatten.length : Int)
  | [] => rfl
  | l :: L => by
    rw [List.map_cons, List.sum_cons, sum_lens L, List.flatten_cons, List.length_append]
    omega
end FF
namespace FF
open PySem PySem.Spec PyProof.Rows L2
variable [LT]
def top (i : Nat) : Stmt := PySem.Challenge.pw_fewforests_k71_brims_by_all_lots.main.body.getD i (.Pass ⟨0, 0, 0, 0⟩)
abbrev s_leader_of : Stmt := top 4
abbrev s_join_points : Stmt := top 5
abbrev s_pieces_of : Stmt := top 9
abbrev s_with_tie : Stmt := top 11
abbrev s_tie_of : Stmt := top 12
abbrev s_bounded_web : Stmt := top 13
abbrev s_ties_by_forest : Stmt := top 15
abbrev s_hung_forest : Stmt := top 16
abbrev s_hang_tree : Stmt := top 17
abbrev s_ring_between : Stmt := top 18
abbrev s_push_tie : Stmt := top 20
abbrev s_first_free : Stmt := top 21
abbrev s_newly_reached : Stmt := top 22
abbrev s_row_to : Stmt := top 23
abbrev s_levels_of : Stmt := top 24
abbrev s_ends_of : Stmt := top 25
abbrev s_is_beyond_rooms : Stmt := top 28
abbrev s_pairs_of : Stmt := top 29
abbrev s_is_held : Stmt := top 30
abbrev s_rooms_of : Stmt := top 32
abbrev s_brims_of : Stmt := top 33
abbrev s_law_mixed : Stmt := top 35
abbrev s_law_deck : Stmt := top 36
abbrev s_law_next : Stmt := top 37
abbrev s_law_tie : Stmt := top 38
abbrev s_law_any_web : Stmt := top 39
abbrev s_law_round : Stmt := top 40
abbrev s_law_full : Stmt := top 41
abbrev s_law_tree : Stmt := top 42
abbrev s_law_web : Stmt := top 43
abbrev s_law_heads : Stmt := top 44
abbrev s_law_is_forest : Stmt := top 45
abbrev s_law_within : Stmt := top 46
abbrev s_law_lots : Stmt := top 47
abbrev s_law_laying : Stmt := top 48
abbrev s_law_in_layer : Stmt := top 49
abbrev s_law_is_tight : Stmt := top 50
abbrev s_law_tight_lots : Stmt := top 51
abbrev s_law_is_part : Stmt := top 52
abbrev s_law_greatest : Stmt := top 53
abbrev s_law : Stmt := top 54

/-! ### built-ins and constants of the text -/
structure Blt (mg : Str → Option Value) : Prop where
  b_ValueError : mg "ValueError" = none
  b_any : mg "any" = none
  b_enumerate : mg "enumerate" = none
  b_int : mg "int" = none
  b_isinstance : mg "isinstance" = none
  b_len : mg "len" = none
  b_list : mg "list" = none
  b_max : mg "max" = none
  b_min : mg "min" = none
  b_range : mg "range" = none
  b_reversed : mg "reversed" = none
  b_set : mg "set" = none
  b_sorted : mg "sorted" = none
  b_sum : mg "sum" = none
  b_tuple : mg "tuple" = none
  b_zip : mg "zip" = none
  c_MOST_POINTS : ∃ t, mg "MOST_POINTS" = some (.int 40 t)
  c_MOST_TIES : ∃ t, mg "MOST_TIES" = some (.int 120 t)
  c_MOST_POINTS_FOR_ROOMS : ∃ t, mg "MOST_POINTS_FOR_ROOMS" = some (.int 16 t)
def Tabs (tb : List Addr) (H : Hp) : Prop := ∀ P ∈ tb, TabG H P
theorem Tabs.kx {tb : List Addr} {S : Addr → Prop} {H H1 : Hp} (h : Tabs tb H) (k : Kx S H H1) : Tabs tb H1 := fun P hP => k.tab P (h P hP)
theorem Tabs.dk {tb : List Addr} {p : Addr} {H H1 : Hp} (h : Tabs tb H) (k : Dk p H H1) : Tabs tb H1 := h.kx k.k
theorem Tabs.new {tb : List Addr} {p : Addr} {H : Hp} {o : HO} (h : Tabs tb H) (k : H p = none) : Tabs tb (upd H p o) := h.kx (S := fun _ => False) (Ke.new k)
abbrev nm_leader_of : List Str := ["leaders", "point"]
theorem sc_leader_of : FnScope nm_leader_of ["leaders", "point"] (defScope s_leader_of) := ⟨rfl, rfl, rfl, by decide +kernel, rfl, by decide +kernel, by decide +kernel⟩
/-! ### leader_of -/
def sp_leader_of (_ : PySem.W.Frag) (_ : List Addr) : Sp := fun vs H Q _ => ∃ (p : Addr) (ls : List Int) (n : Int) (r : Int → Int) (d : Int → Nat) (x : Int), vs = [.ref p, .int x] ∧ H p = some (.lst (ls.map V.int)) ∧ UF n ls r d ∧ 0 ≤ x ∧ x < n ∧
  ∀ ls', UF n ls' r d → Q (.int (r x)) (upd H p (.lst (ls'.map V.int)))
abbrev nm_join_points : List Str := ["leaders", "a", "b", "first", "second"]
theorem sc_join_points : FnScope nm_join_points ["leaders", "a", "b"] (defScope s_join_points) := ⟨rfl, rfl, rfl, by decide +kernel, rfl, by decide +kernel, by decide +kernel⟩
/-! ### join_points -/
def sp_join_points (_ : PySem.W.Frag) (_ : List Addr) : Sp := fun vs H Q _ => ∃ (p : Addr) (ls : List Int) (n : Int) (r : Int → Int) (d : Int → Nat) (a b : Int), vs = [.ref p, .int a, .int b] ∧ H p = some (.lst (ls.map V.int)) ∧ UF n ls r d ∧ 0 ≤ a ∧ a < n ∧ 0 ≤ b ∧ b < n ∧
  ∀ ls' d', UF n ls' (rstep r (a, b)) d' → Q (.bl (!decide (r a = r b))) (upd H p (.lst (ls'.map V.int)))
abbrev nm_pieces_of : List Str := ["web", "points", "ties", "leaders", "a", "b", "pieces", "point"]
theorem sc_pieces_of : FnScope nm_pieces_of ["web"] (defScope s_pieces_of) := ⟨rfl, rfl, rfl, by decide +kernel, rfl, by decide +kernel, by decide +kernel⟩
theorem gnd_pieces_of_0 : (["piece"] : List Str).Nodup := by decide +kernel
/-! ### pieces_of -/
def sp_pieces_of (_ : PySem.W.Frag) (tb : List Addr) : Sp := fun vs H Q _ => ∃ (v : V) (n : Int) (ts : List (Int × Int)), vs = [v] ∧ Web H v n ts ∧ TOk n ts ∧ 0 ≤ n ∧ n ≤ 1000 ∧ ts.length ≤ 5000 ∧ Tabs tb H ∧
  ∀ H' u rs, Ke H H' → H u = none → H' u = some (.tup rs) → Lots H' rs (piecesF (foldR (fun x => x) ts) n) → Q (.ref u) H'
abbrev nm_bounded_web : List Str := ["points", "ties"]
theorem sc_bounded_web : FnScope nm_bounded_web ["points", "ties"] (defScope s_bounded_web) := ⟨rfl, rfl, rfl, by decide +kernel, rfl, by decide +kernel, by decide +kernel⟩
/-! ### bounded_web -/
def sp_bounded_web (_ : PySem.W.Frag) (_ : List Addr) : Sp := fun vs H Q _ => ∃ (n : Int) (ts : List (Int × Int)) (u : Addr) (rs : List V), vs = [.int n, .ref u] ∧ H u = some (.tup rs) ∧ Ties H rs ts ∧ n ≤ 40 ∧ ts.length ≤ 120 ∧
  ∀ H' v', Ke H H' → Web H' v' n ts → Q v' H'
abbrev nm_tie_of : List Str := ["a", "b"]
theorem sc_tie_of : FnScope nm_tie_of ["a", "b"] (defScope s_tie_of) := ⟨rfl, rfl, rfl, by decide +kernel, rfl, by decide +kernel, by decide +kernel⟩
/-! ### tie_of -/
def sp_tie_of (_ : PySem.W.Frag) (_ : List Addr) : Sp := fun vs H Q _ => ∃ (a b : Int), vs = [.int a, .int b] ∧
  ∀ p, H p = none → Q (.ref p) (upd H p (.tup [.int (if b < a then b else a), .int (if b > a then b else a)]))
abbrev nm_with_tie : List Str := ["web", "a", "b"]
theorem sc_with_tie : FnScope nm_with_tie ["web", "a", "b"] (defScope s_with_tie) := ⟨rfl, rfl, rfl, by decide +kernel, rfl, by decide +kernel, by decide +kernel⟩
/-! ### with_tie -/
def sp_with_tie (_ : PySem.W.Frag) (_ : List Addr) : Sp := fun vs H Q _ => ∃ (v : V) (n : Int) (ts : List (Int × Int)) (a b : Int), vs = [v, .int a, .int b] ∧ Web H v n ts ∧ n ≤ 40 ∧ ts.length ≤ 119 ∧
  ∀ H' v', Ke H H' → Web H' v' n (ts ++ [(if b < a then b else a, if b > a then b else a)]) → Q v' H'
abbrev nm_ties_by_forest : List Str := ["laying", "forests", "number", "forest"]
theorem sc_ties_by_forest : FnScope nm_ties_by_forest ["laying"] (defScope s_ties_by_forest) := ⟨rfl, rfl, rfl, by decide +kernel, rfl, by decide +kernel, by decide +kernel⟩
/-! ### ties_by_forest -/
def sp_ties_by_forest (_ : PySem.W.Frag) (_ : List Addr) : Sp := fun vs H Q _ => ∃ (u : Addr) (ws : List V), vs = [.ref u] ∧ H u = some (.tup ws) ∧ (∀ x ∈ ws, IsO x) ∧ ws.length ≤ 1000 ∧
  ∀ H' d (fl : List (Int × Addr)), Ke H H' → H d = none → H' d = some (.dK (kvF fl)) → Byf H' ws fl → Q (.ref d) H'
abbrev nm_hang_tree : List Str := ["steps", "hung", "top", "waiting", "point", "depth", "other", "number"]
theorem sc_hang_tree : FnScope nm_hang_tree ["steps", "hung", "top"] (defScope s_hang_tree) := ⟨rfl, rfl, rfl, by decide +kernel, rfl, by decide +kernel, by decide +kernel⟩
/-! ### hang_tree -/
def sp_hang_tree (_ : PySem.W.Frag) (_ : List Addr) : Sp := fun vs H Q _ => ∃ (s1 h : Addr) (qs : List Addr) (n : Int) (ts : List (Int × Int)) (ms : List Int) (adj : List (List (Int × Int))) (ds : Nds) (top : Int), vs = [.ref s1, .ref h, .int top] ∧ Stp H s1 qs adj ∧ Hg H h ds ∧ Adj n ts ms adj ∧ Part n ts ms adj ds (fun _ => False) ∧ 0 ≤ top ∧ top < n ∧ atN ds top = none ∧ s1 ≠ h ∧ h ∉ qs ∧ n ≤ 1000 ∧ (∀ m ∈ ms, TOk n [ts.getD m.toNat (0, 0)]) ∧
  ∀ H' ds', Kx (fun b => b = h) H H' → Hg H' h ds' → Part n ts ms adj ds' (fun _ => False) → Ext n ds ds' → atN ds' top ≠ none → Q .non H'
abbrev nm_hung_forest : List Str := ["web", "numbers", "root", "points", "ties", "point", "steps", "number", "a", "b", "hung", "top"]
theorem sc_hung_forest : FnScope nm_hung_forest ["web", "numbers", "root"] (defScope s_hung_forest) := ⟨rfl, rfl, rfl, by decide +kernel, rfl, by decide +kernel, by decide +kernel⟩
/-! ### hung_forest -/
def sp_hung_forest (_ : PySem.W.Frag) (_ : List Addr) : Sp := fun vs H Q _ => ∃ (v : V) (n : Int) (ts : List (Int × Int)) (u : Addr) (ms : List Int) (root : Int), vs = [v, .ref u, .int root] ∧ Web H v n ts ∧ H u = some (.lst (ms.map V.int)) ∧ TOk n ts ∧ 0 ≤ root ∧ root < n ∧ n ≤ 1000 ∧ (∀ m ∈ ms, 0 ≤ m ∧ m < ts.length) ∧ ms.length ≤ 1000 ∧
  ∀ H' h ds, Ke H H' → H h = none → Hg H' h ds → Hung n ts ms ds → Q (.ref h) H'
abbrev nm_ring_between : List Str := ["hung", "a", "b", "ahead", "behind"]
theorem sc_ring_between : FnScope nm_ring_between ["hung", "a", "b"] (defScope s_ring_between) := ⟨rfl, rfl, rfl, by decide +kernel, rfl, by decide +kernel, by decide +kernel⟩
/-! ### ring_between -/
def sp_ring_between (_ : PySem.W.Frag) (_ : List Addr) : Sp := fun vs H Q _ => ∃ (h : Addr) (ds : Nds) (n : Int) (ts : List (Int × Int)) (ms : List Int) (a b : Int) (da db : Nd), vs = [.ref h, .int a, .int b] ∧ Hg H h ds ∧ Hung n ts ms ds ∧ 0 ≤ a ∧ a < n ∧ 0 ≤ b ∧ b < n ∧ atN ds a = some da ∧ atN ds b = some db ∧ n ≤ 1000 ∧
  (da.top ≠ db.top → Q .non H) ∧ (da.top = db.top → ∀ H' u ns, Ke H H' → H u = none → H' u = some (.tup (ns.map V.int)) → IsRing ts ms a b ns → Q (.ref u) H')
abbrev nm_newly_reached : List Str := ["pushers", "ring", "push", "pushed", "reached"]
theorem sc_newly_reached : FnScope nm_newly_reached ["pushers", "ring", "push"] (defScope s_newly_reached) := ⟨rfl, rfl, rfl, by decide +kernel, rfl, by decide +kernel, by decide +kernel⟩
/-! ### newly_reached -/
def sp_newly_reached (_ : PySem.W.Frag) (_ : List Addr) : Sp := fun vs H Q _ => ∃ (d c q0 : Addr) (pl : List (Int × V)) (ns : List Int), vs = [.ref d, .ref c, .ref q0] ∧ H d = some (.dK (kvV pl)) ∧ (pl.map Prod.fst).Nodup ∧ H c = some (.tup (ns.map V.int)) ∧ ns.Nodup ∧ pl.length + ns.length ≤ 100000 ∧
  ∀ H' l, Kx (fun b => b = d) H H' → H l = none → H' l = some (.lst ((ns.filter fun x => !decide (x ∈ pl.map Prod.fst)).map V.int)) → H' d = some (.dK (kvV (pl ++ (ns.filter fun x => !decide (x ∈ pl.map Prod.fst)).map fun x => (x, V.ref q0)))) → Q (.ref l) H'
abbrev nm_first_free : List Str := ["web", "k", "laying", "pushers", "numbers", "hung", "waiting", "at", "pusher", "a", "b", "forest", "ring"]
theorem sc_first_free : FnScope nm_first_free ["web", "k", "laying", "pushers"] (defScope s_first_free) := ⟨rfl, rfl, rfl, by decide +kernel, rfl, by decide +kernel, by decide +kernel⟩
/-! ### first_free -/
def sp_first_free (_ : PySem.W.Frag) (_ : List Addr) : Sp := fun vs H Q _ => ∃ (v : V) (n : Int) (ts : List (Int × Int)) (k : Int) (u : Addr) (ws : List V) (tie : Nat) (d : Addr), vs = [v, .int k, .ref u, .ref d] ∧ Web H v n ts ∧ H u = some (.tup ws) ∧ LayK ts k ws ∧ TOk n ts ∧ 1 ≤ n ∧ n ≤ 1000 ∧ ts.length ≤ 1000 ∧ 0 ≤ k ∧ k ≤ 1000 ∧ tie < ts.length ∧ H d = some (.dK (kvV [((tie : Int), .non)])) ∧
  (∀ H' (pl : List (Int × V)) fl lv a, Kx (fun b => b = d) H H' → H' d = some (.dK (kvV pl)) → PaL H' pl fl → Bfs ts ws k tie fl lv a → fl.length ≤ a → Q .non H') ∧
  (∀ H' (pl : List (Int × V)) fl lv a x o g q, Kx (fun b => b = d) H H' → H' d = some (.dK (kvV pl)) → PaL H' pl fl → Bfs ts ws k tie fl lv a → fl[a]? = some (x, o) → H' q = some (.tup [.int x, .int g]) → PRow ts ws k [(x, g)] → Fst ts ws k tie a x g fl → Q (.ref q) H')
abbrev nm_row_to : List Str := ["pushers", "last", "row"]
theorem sc_row_to : FnScope nm_row_to ["pushers", "last"] (defScope s_row_to) := ⟨rfl, rfl, rfl, by decide +kernel, rfl, by decide +kernel, by decide +kernel⟩
/-! ### row_to -/
def sp_row_to (_ : PySem.W.Frag) (_ : List Addr) : Sp := fun vs H Q _ => ∃ (ts : List (Int × Int)) (ws : List V) (k : Int) (tie : Nat) (d q0 : Addr) (pl : List (Int × V)) (fl : List (Int × Option (Int × Int))) (lv : Nat → Nat) (a i0 : Nat) (x g : Int) (o : Option (Int × Int)), vs = [.ref d, .ref q0] ∧ H d = some (.dK (kvV pl)) ∧ PaL H pl fl ∧ Bfs ts ws k tie fl lv a ∧ H q0 = some (.tup [.int x, .int g]) ∧ fl[i0]? = some (x, o) ∧ PRow ts ws k [(x, g)] ∧ fl.length ≤ 1000 ∧
  ∀ H' c xs e r, Ke H H' → H c = none → H' c = some (.tup xs) → Ties H' xs (e :: r) → PRow ts ws k (e :: r) → e.1 = tie → r.length = lv i0 → (∃ mid, e :: r = mid ++ [(x, g)] ∧ Pth fl x mid) → Q (.ref c) H'
abbrev nm_levels_of : List Str := ["web", "pushers", "n", "levels", "number", "push"]
theorem sc_levels_of : FnScope nm_levels_of ["web", "pushers", "n"] (defScope s_levels_of) := ⟨rfl, rfl, rfl, by decide +kernel, rfl, by decide +kernel, by decide +kernel⟩
theorem gnd_levels_of_0 : (["n", "levels", "number"] : List Str).Nodup := by decide +kernel
/-! ### levels_of -/
def sp_levels_of (_ : PySem.W.Frag) (tb : List Addr) : Sp := fun vs H Q _ => ∃ (v : V) (nn : Int) (ts : List (Int × Int)) (ws : List V) (k : Int) (tie : Nat) (d : Addr) (pl : List (Int × V)) (fl : List (Int × Option (Int × Int))) (lv : Nat → Nat) (a : Nat) (m : Int), vs = [v, .ref d, .int m] ∧ Web H v nn ts ∧ H d = some (.dK (kvV pl)) ∧ PaL H pl fl ∧ Bfs ts ws k tie fl lv a ∧ fl.length ≤ 1000 ∧ ts.length ≤ 1000 ∧ Tabs tb H ∧
  ∀ H' c (ls : List Int), Kx (fun b => b = d) H H' → H c = none → H' c = some (.tup (ls.map V.int)) → ls.length = ts.length → (∀ (i : Nat) x o, fl[i]? = some (x, o) → hat ls x = lv i) → (∀ x, 0 ≤ x → x < (ts.length : Int) → x ∉ fl.map Prod.fst → hat ls x = m) → Q (.ref c) H'
abbrev nm_ends_of : List Str := ["web", "numbers", "number", "point"]
theorem sc_ends_of : FnScope nm_ends_of ["web", "numbers"] (defScope s_ends_of) := ⟨rfl, rfl, rfl, by decide +kernel, rfl, by decide +kernel, by decide +kernel⟩
/-! ### ends_of -/
def addN (ms : List Int) (a : Int) : List Int := if a ∈ ms then ms else ms ++ [a]
theorem addN_mem {ms : List Int} {a x : Int} : x ∈ addN ms a ↔ x ∈ ms ∨ x = a := by
  unfold addN
  split
  · exact ⟨.inl, fun h => h.elim id fun e => by rw [e]; assumption⟩
  · rw [List.mem_append, List.mem_singleton]
theorem addN_nd {ms : List Int} {a : Int} (h : ms.Nodup) : (addN ms a).Nodup := by
  unfold addN
  split
  · exact h
  · rename_i hn
    rw [List.nodup_append]
    exact ⟨h, by simp, fun x hx y hy => by rw [List.mem_singleton.mp hy]; exact fun z => hn (by rw [← z]; exact hx)⟩
theorem SetO_add {w : World} {D : Addr} {ms : List Int} {a : Int} : SetO w D (fun b => decide (b ∈ ms) || decide (b = a)) (if decide (a ∈ ms) = true then ms.length else ms.length + 1) = SetO w D (fun j => decide (j ∈ addN ms a)) (addN ms a).length := by
  have e1 : (fun b => decide (b ∈ ms) || decide (b = a)) = fun j => decide (j ∈ addN ms a) := funext fun b => by
    rw [decide_eq_decide.mpr addN_mem, Bool.decide_or]
  have e2 : (if decide (a ∈ ms) = true then ms.length else ms.length + 1) = (addN ms a).length := by
    unfold addN
    by_cases c : a ∈ ms
    · rw [decide_eq_true c, if_pos rfl, if_pos c]
    · rw [decide_eq_false c, if_neg (by decide), if_neg c, List.length_append]
      rfl
  rw [e1, e2]
theorem SetO_none {w : World} {D : Addr} : SetO w D (fun _ => false) 0 = SetO w D (fun j => decide (j ∈ ([] : List Int))) ([] : List Int).length := by
  congr 1
def sp_ends_of (_ : PySem.W.Frag) (_ : List Addr) : Sp := fun vs H Q _ => ∃ (v : V) (n : Int) (ts : List (Int × Int)) (l : Addr) (R : List Int), vs = [v, .ref l] ∧ Web H v n ts ∧ TOk n ts ∧ 0 ≤ n ∧ n ≤ 60 ∧ ts.length ≤ 1000 ∧ H l = some (.lst (R.map V.int)) ∧ (∀ m ∈ R, 0 ≤ m ∧ m < ts.length) ∧
  ∀ H' p ls, Ke H H' → H p = none → H' p = some (.tup (ls.map V.int)) → ls.Pairwise (· < ·) → (∀ x ∈ ls, 0 ≤ x ∧ x < n) → EndsOf ts R ls → Q (.ref p) H'
abbrev nm_push_tie : List Str := ["web", "k", "laying", "tie", "pushers", "last", "row"]
theorem sc_push_tie : FnScope nm_push_tie ["web", "k", "laying", "tie"] (defScope s_push_tie) := ⟨rfl, rfl, rfl, by decide +kernel, rfl, by decide +kernel, by decide +kernel⟩
/-! ### push_tie -/
def sp_push_tie (_ : PySem.W.Frag) (tb : List Addr) : Sp := fun vs H Q _ => ∃ (v : V) (n : Int) (ts : List (Int × Int)) (k : Int) (u : Addr) (ws : List V) (tie : Nat), vs = [v, .int k, .ref u, .int tie] ∧ Web H v n ts ∧ H u = some (.tup ws) ∧ LayK ts k ws ∧ TOk n ts ∧ 1 ≤ n ∧ n ≤ 60 ∧ ts.length ≤ 120 ∧ 0 ≤ k ∧ k ≤ 1000 ∧ tie < ts.length ∧ ws[tie]? = some .non ∧ Tabs tb H ∧
  ∀ H' x, Ke H H' → Told ts n k ws tie H' x → Q (.ref x) H'
abbrev nm_is_beyond_rooms : List Str := ["web"]
theorem sc_is_beyond_rooms : FnScope nm_is_beyond_rooms ["web"] (defScope s_is_beyond_rooms) := ⟨rfl, rfl, rfl, by decide +kernel, rfl, by decide +kernel, by decide +kernel⟩
/-! ### is_beyond_rooms -/
def sp_is_beyond_rooms (_ : PySem.W.Frag) (_ : List Addr) : Sp := fun vs H Q _ => ∃ (v : V) (n : Int) (ts : List (Int × Int)), vs = [v] ∧ Web H v n ts ∧ n ≤ 16 ∧ ts.length ≤ 119 ∧ Q (.bl false) H
abbrev nm_pairs_of : List Str := ["web", "a", "b"]
theorem sc_pairs_of : FnScope nm_pairs_of ["web"] (defScope s_pairs_of) := ⟨rfl, rfl, rfl, by decide +kernel, rfl, by decide +kernel, by decide +kernel⟩
/-! ### pairs_of -/
def sp_pairs_of (_ : PySem.W.Frag) (_ : List Addr) : Sp := fun vs H Q _ => ∃ (v : V) (n : Int) (ts : List (Int × Int)), vs = [v] ∧ Web H v n ts ∧ 0 ≤ n ∧ n ≤ 16 ∧
  ∀ H' l, Ke H H' → H l = none → TL H' l (pairsL n) → Q (.ref l) H'
abbrev nm_is_held : List Str := ["lots", "pair"]
theorem sc_is_held : FnScope nm_is_held ["lots", "pair"] (defScope s_is_held) := ⟨rfl, rfl, rfl, by decide +kernel, rfl, by decide +kernel, by decide +kernel⟩
theorem gnd_is_held_0 : (["pair", "lot"] : List Str).Nodup := by decide +kernel
/-! ### is_held -/
def sp_is_held (_ : PySem.W.Frag) (tb : List Addr) : Sp := fun vs H Q _ => ∃ (l pr : Addr) (xs : List V) (lots : List (List Int)) (a b : Int), vs = [.ref l, .ref pr] ∧ H l = some (.lst xs) ∧ Lots H xs lots ∧ H pr = some (.tup [.int a, .int b]) ∧ Tabs tb H ∧
  ∀ H', Ke H H' → Q (.bl (heldB lots a b)) H'
abbrev nm_rooms_of : List Str := ["web", "k", "laying", "lots", "rows", "pair", "told"]
theorem sc_rooms_of : FnScope nm_rooms_of ["web", "k", "laying"] (defScope s_rooms_of) := ⟨rfl, rfl, rfl, by decide +kernel, rfl, by decide +kernel, by decide +kernel⟩
/-! ### rooms_of -/
def sp_rooms_of (_ : PySem.W.Frag) (tb : List Addr) : Sp := fun vs H Q _ => ∃ (v : V) (n : Int) (ts : List (Int × Int)) (k : Int) (u : Addr) (ws : List V), vs = [v, .int k, .ref u] ∧ Web H v n ts ∧ TOk n ts ∧ 1 ≤ n ∧ n ≤ 16 ∧ ts.length ≤ 119 ∧ 0 ≤ k ∧ k ≤ 1000 ∧ H u = some (.tup ws) ∧ LayK ts k ws ∧ Tabs tb H ∧
  ∀ H' x lots rows, Ke H H' → RoomD H' x lots rows → RoomI ts n k ws (pairsL n) lots rows → Q (.ref x) H'
abbrev nm_brims_of : List Str := ["web", "k", "laying", "lots", "joins"]
theorem sc_brims_of : FnScope nm_brims_of ["web", "k", "laying"] (defScope s_brims_of) := ⟨rfl, rfl, rfl, by decide +kernel, rfl, by decide +kernel, by decide +kernel⟩
theorem gnd_brims_of_0 : (["lot", "point"] : List Str).Nodup := by decide +kernel
theorem gnd_brims_of_1 : (["piece"] : List Str).Nodup := by decide +kernel
/-! ### brims_of -/
def sp_brims_of (_ : PySem.W.Frag) (tb : List Addr) : Sp := fun vs H Q _ => ∃ (v : V) (n : Int) (ts : List (Int × Int)) (k : Int) (u : Addr) (ws : List V), vs = [v, .int k, .ref u] ∧ Web H v n ts ∧ TOk n ts ∧ 1 ≤ n ∧ n ≤ 16 ∧ ts.length ≤ 119 ∧ 0 ≤ k ∧ k ≤ 1000 ∧ H u = some (.tup ws) ∧ LayK ts k ws ∧ Tabs tb H ∧
  ∀ H' x rs lots rows, Ke H H' → RoomI ts n k ws (pairsL n) lots rows → H' x = some (.tup rs) → Lots H' rs ((piecesF (foldR (fun x => x) (joinsF lots)) n).filter fun l => decide (1 < l.length)) → Q (.ref x) H'
abbrev nm__law_mixed : List Str := ["_law_cell", "_law_k", "_law_number"]
theorem sc__law_mixed : FnScope nm__law_mixed ["_law_cell", "_law_k"] (defScope s_law_mixed) := ⟨rfl, rfl, rfl, by decide +kernel, rfl, by decide +kernel, by decide +kernel⟩
/-! ### _law_mixed -/
def sp__law_mixed (_ : PySem.W.Frag) (_ : List Addr) : Sp := fun vs H Q _ => ∃ c k : Int, vs = [.int c, .int k] ∧ 0 ≤ k ∧ k < 1000000 ∧ ∀ r : Int, 0 ≤ r → Q (.int r) H
abbrev nm__law_deck : List Str := ["_law_script", "_law_many", "_law_own", "_law_cell", "_law_rest", "_law_deck_here", "_law_k", "_law_at"]
theorem sc__law_deck : FnScope nm__law_deck ["_law_script", "_law_many"] (defScope s_law_deck) := ⟨rfl, rfl, rfl, by decide +kernel, rfl, by decide +kernel, by decide +kernel⟩
/-! ### _law_deck -/
def sp__law_deck (K : PySem.W.Frag) (_ : List Addr) : Sp := fun vs H Q _ => ∃ (a : Addr) (ns : List Int) (n : Int), vs = [.ref a, .int n] ∧ SqL K H a (ns.map V.int) ∧ ns.length ≤ 63 ∧ 0 ≤ n ∧ n ≤ 5000 ∧
  ∀ p H', H p = none → Ke H H' → Deck H' p → Q (.ref p) H'
abbrev nm__law_next : List Str := ["_law_deck_here"]
theorem sc__law_next : FnScope nm__law_next ["_law_deck_here"] (defScope s_law_next) := ⟨rfl, rfl, rfl, by decide +kernel, rfl, by decide +kernel, by decide +kernel⟩
/-! ### _law_next -/
def sp__law_next (_ : PySem.W.Frag) (_ : List Addr) : Sp := fun vs H Q _ => ∃ p : Addr, vs = [.ref p] ∧ Deck H p ∧ ∀ (r : Int) (H' : Hp), 0 ≤ r → r < 1000 → Dk p H H' → Q (.int r) H'
abbrev nm__law_tie : List Str := ["_law_deck_here", "_law_points", "_law_a", "_law_b"]
theorem sc__law_tie : FnScope nm__law_tie ["_law_deck_here", "_law_points"] (defScope s_law_tie) := ⟨rfl, rfl, rfl, by decide +kernel, rfl, by decide +kernel, by decide +kernel⟩
/-! ### _law_tie -/
def sp__law_tie (_ : PySem.W.Frag) (_ : List Addr) : Sp := fun vs H Q _ => ∃ (p : Addr) (n : Int), vs = [.ref p, .int n] ∧ Deck H p ∧ 2 ≤ n ∧
  ∀ (a b : Int) (t : Addr) (H1 : Hp), 0 ≤ a → a < b → b < n → Dk p H H1 → H1 t = none → Q (.ref t) (upd H1 t (.tup [.int a, .int b]))
abbrev nm__law_any_web : List Str := ["_law_deck_here", "_law_points", "_law_most", "_law_ties", "_law_k"]
theorem sc__law_any_web : FnScope nm__law_any_web ["_law_deck_here", "_law_points", "_law_most"] (defScope s_law_any_web) := ⟨rfl, rfl, rfl, by decide +kernel, rfl, by decide +kernel, by decide +kernel⟩
/-! ### _law_any_web -/
def sp__law_any_web (_ : PySem.W.Frag) (_ : List Addr) : Sp := fun vs H Q _ => ∃ (p : Addr) (n m : Int), vs = [.ref p, .int n, .int m] ∧ Deck H p ∧ 1 ≤ n ∧ n ≤ 1000 ∧ 0 ≤ m ∧ m ≤ 1000 ∧
  ∀ (H' : Hp) (v : V) (ts : List (Int × Int)), Dk p H H' → Web H' v n ts → (ts.length : Int) ≤ m → TOk n ts → (n = 1 → ts = []) → Q v H'
abbrev nm__law_round : List Str := ["_law_points", "_law_k"]
theorem sc__law_round : FnScope nm__law_round ["_law_points"] (defScope s_law_round) := ⟨rfl, rfl, rfl, by decide +kernel, rfl, by decide +kernel, by decide +kernel⟩
/-! ### _law_round -/
def sp__law_round (_ : PySem.W.Frag) (_ : List Addr) : Sp := fun vs H Q _ => ∃ n : Int, vs = [.int n] ∧ 2 ≤ n ∧ n ≤ 1000 ∧
  ∀ (H' : Hp) (l : Addr) (ts : List (Int × Int)), Ke H H' → H l = none → TL H' l ts → (ts.length : Int) ≤ n → TOk n ts → Q (.ref l) H'
abbrev nm__law_full : List Str := ["_law_points", "_law_found", "_law_b", "_law_a"]
theorem sc__law_full : FnScope nm__law_full ["_law_points"] (defScope s_law_full) := ⟨rfl, rfl, rfl, by decide +kernel, rfl, by decide +kernel, by decide +kernel⟩
/-! ### _law_full -/
def sp__law_full (_ : PySem.W.Frag) (_ : List Addr) : Sp := fun vs H Q _ => ∃ n : Int, vs = [.int n] ∧ 0 ≤ n ∧ n ≤ 100 ∧
  ∀ (H' : Hp) (l : Addr) (ts : List (Int × Int)), Ke H H' → H l = none → TL H' l ts → (ts.length : Int) ≤ 10000 → TOk n ts → Q (.ref l) H'
abbrev nm__law_tree : List Str := ["_law_deck_here", "_law_points", "_law_k"]
theorem sc__law_tree : FnScope nm__law_tree ["_law_deck_here", "_law_points"] (defScope s_law_tree) := ⟨rfl, rfl, rfl, by decide +kernel, rfl, by decide +kernel, by decide +kernel⟩
/-! ### _law_tree -/
def sp__law_tree (_ : PySem.W.Frag) (_ : List Addr) : Sp := fun vs H Q _ => ∃ (p : Addr) (n : Int), vs = [.ref p, .int n] ∧ Deck H p ∧ 1 ≤ n ∧ n ≤ 1000 ∧
  ∀ (H' : Hp) (l : Addr) (ts : List (Int × Int)), Dk p H H' → H l = none → TL H' l ts → (ts.length : Int) ≤ n → TOk n ts → Q (.ref l) H'
abbrev nm__law_web : List Str := ["_law_deck_here", "_law_points", "_law_most", "_law_sort", "_law_size", "_law_more", "_law_ties", "_law_turn"]
theorem sc__law_web : FnScope nm__law_web ["_law_deck_here", "_law_points", "_law_most"] (defScope s_law_web) := ⟨rfl, rfl, rfl, by decide +kernel, rfl, by decide +kernel, by decide +kernel⟩
/-! ### _law_web -/
def sp__law_web (_ : PySem.W.Frag) (_ : List Addr) : Sp := fun vs H Q _ => ∃ (p : Addr) (M m : Int), vs = [.ref p, .int M, .int m] ∧ Deck H p ∧ 1 ≤ M ∧ M ≤ 100 ∧ 0 ≤ m ∧ m ≤ 1000 ∧
  ∀ (H' : Hp) (v : V) (n : Int) (ts : List (Int × Int)), Dk p H H' → Web H' v n ts → 1 ≤ n → n ≤ M → (ts.length : Int) ≤ m → TOk n ts → Q v H'
abbrev nm__law_heads : List Str := ["_law_points", "_law_ties", "_law_found", "_law_a", "_law_b", "_law_one", "_law_other", "_law_head"]
theorem sc__law_heads : FnScope nm__law_heads ["_law_points", "_law_ties"] (defScope s_law_heads) := ⟨rfl, rfl, rfl, by decide +kernel, rfl, by decide +kernel, by decide +kernel⟩
/-! ### _law_heads -/
def sp__law_heads (_ : PySem.W.Frag) (_ : List Addr) : Sp := fun vs H Q _ => ∃ (n : Int) (u : Addr) (rs : List V) (ts : List (Int × Int)), vs = [.int n, .ref u] ∧ H u = some (.lst rs) ∧ Ties H rs ts ∧ TOk n ts ∧ 0 ≤ n ∧ n ≤ 1000 ∧
  ∀ l H', Ke H H' → H' l = some (.lst ((headsF (upTo n) ts).map V.int)) → Q (.ref l) H'
abbrev nm__law_is_forest : List Str := ["_law_points", "_law_ties"]
theorem sc__law_is_forest : FnScope nm__law_is_forest ["_law_points", "_law_ties"] (defScope s_law_is_forest) := ⟨rfl, rfl, rfl, by decide +kernel, rfl, by decide +kernel, by decide +kernel⟩
/-! ### _law_is_forest -/
def sp__law_is_forest (_ : PySem.W.Frag) (_ : List Addr) : Sp := fun vs H Q _ => ∃ (n : Int) (u : Addr) (rs : List V) (ts : List (Int × Int)), vs = [.int n, .ref u] ∧ H u = some (.lst rs) ∧ Ties H rs ts ∧ TOk n ts ∧ 0 ≤ n ∧ n ≤ 1000 ∧
  ∀ H', Ke H H' → Q (.bl (ringlessF (fun x => x) ts)) H'
abbrev nm__law_within : List Str := ["_law_web_here", "_law_lot", "_law_a", "_law_b"]
theorem sc__law_within : FnScope nm__law_within ["_law_web_here", "_law_lot"] (defScope s_law_within) := ⟨rfl, rfl, rfl, by decide +kernel, rfl, by decide +kernel, by decide +kernel⟩
/-! ### _law_within -/
def sp__law_within (_ : PySem.W.Frag) (_ : List Addr) : Sp := fun vs H Q _ => ∃ (v : V) (n : Int) (ts : List (Int × Int)) (a : Addr) (ls : List Int), vs = [v, .ref a] ∧ (Web H v n ts ∨ WebL H v n ts) ∧ H a = some (.tup (ls.map V.int)) ∧ ts.length ≤ 1000000 ∧
  ∀ H', Ke H H' → Q (.int (inside ls ts)) H'
abbrev nm__law_lots : List Str := ["_law_points", "_law_found", "_law_k", "_law_lot"]
theorem sc__law_lots : FnScope nm__law_lots ["_law_points"] (defScope s_law_lots) := ⟨rfl, rfl, rfl, by decide +kernel, rfl, by decide +kernel, by decide +kernel⟩
/-! ### _law_lots -/
def sp__law_lots (_ : PySem.W.Frag) (_ : List Addr) : Sp := fun vs H Q _ => ∃ (n : Nat), vs = [.int n] ∧ n ≤ 12 ∧
  ∀ (H' : Hp) (l : Addr) (rs : List V), Ke H H' → H l = none → H' l = some (.lst rs) → Lots H' rs ((lotsF n).filter fun l => !l.isEmpty) → Q (.ref l) H'
abbrev nm__law_laying : List Str := ["_law_deck_here", "_law_web_here", "_law_layers", "_law_found", "_law_number", "_law_tie_here", "_law_turn", "_law_places", "_law_k", "_law_other", "_law_free"]
theorem sc__law_laying : FnScope nm__law_laying ["_law_deck_here", "_law_web_here"] (defScope s_law_laying) := ⟨rfl, rfl, rfl, by decide +kernel, rfl, by decide +kernel, by decide +kernel⟩
def csc__law_laying_6_20 : Scope := { kind := .function, names := [(".0", .local), ("_law_k", .local), ("_law_is_forest", .globalImplicit), ("_law_layers", .free), ("_law_tie_here", .free), ("_law_web_here", .free)], isGenerator := false, isCoroutine := false, more := [] }
/-! ### _law_laying -/
def sp__law_laying (_ : PySem.W.Frag) (_ : List Addr) : Sp := fun vs H Q _ => ∃ (p : Addr) (v : V) (n : Int) (ts : List (Int × Int)), vs = [.ref p, v] ∧ Deck H p ∧ Web H v n ts ∧ TOk n ts ∧ 0 ≤ n ∧ n ≤ 1000 ∧ ts.length ≤ 1000 ∧
  ∀ H' u c (m : Int) ws, Dk p H H' → H u = none → H c = none → H' u = some (.tup [.int m, .ref c]) → H' c = some (.tup ws) → 0 ≤ m → m ≤ ts.length → Laid ts m ws → Q (.ref u) H'
abbrev nm__law_in_layer : List Str := ["_law_web_here", "_law_layers", "_law_layer", "_law_tie_here", "_law_own"]
theorem sc__law_in_layer : FnScope nm__law_in_layer ["_law_web_here", "_law_layers", "_law_layer"] (defScope s_law_in_layer) := ⟨rfl, rfl, rfl, by decide +kernel, rfl, by decide +kernel, by decide +kernel⟩
/-! ### _law_in_layer -/
def sp__law_in_layer (_ : PySem.W.Frag) (_ : List Addr) : Sp := fun vs H Q _ => ∃ (v : V) (n : Int) (ts : List (Int × Int)) (u : Addr) (ws : List V) (f : Int), vs = [v, .ref u, .int f] ∧ Web H v n ts ∧ H u = some (.tup ws) ∧ (∀ x ∈ ws, IsO x) ∧ ts.length ≤ 1000 ∧ ws.length = ts.length ∧
  ∀ H' l qs, Ke H H' → H l = none → H' l = some (.lst qs) → Ties H' qs (layerOf ts ws f) → Q (.ref l) H'
abbrev nm__law_is_tight : List Str := ["_law_web_here", "_law_k", "_law_laying_here", "_law_lot", "_law_forest"]
theorem sc__law_is_tight : FnScope nm__law_is_tight ["_law_web_here", "_law_k", "_law_laying_here", "_law_lot"] (defScope s_law_is_tight) := ⟨rfl, rfl, rfl, by decide +kernel, rfl, by decide +kernel, by decide +kernel⟩
/-! ### _law_is_tight -/
def sp__law_is_tight (_ : PySem.W.Frag) (_ : List Addr) : Sp := fun vs H Q _ => ∃ (v : V) (n : Int) (ts : List (Int × Int)) (k : Int) (u : Addr) (ws : List V) (a : Addr) (ls : List Int),
  vs = [v, .int k, .ref u, .ref a] ∧ Web H v n ts ∧ H u = some (.tup ws) ∧ LayK ts k ws ∧ H a = some (.tup (ls.map V.int)) ∧ 0 ≤ k ∧ k ≤ 1000000 ∧ ts.length ≤ 1000 ∧ ls.Nodup ∧ ls ≠ [] ∧
  ∀ H', Ke H H' → Q (.bl (decide ((inside ls (laidT ts ws) : Int) = k * ((ls.length : Int) - 1)))) H'
abbrev nm__law_tight_lots : List Str := ["_law_web_here", "_law_k", "_law_laying_here", "_law_lot"]
theorem sc__law_tight_lots : FnScope nm__law_tight_lots ["_law_web_here", "_law_k", "_law_laying_here"] (defScope s_law_tight_lots) := ⟨rfl, rfl, rfl, by decide +kernel, rfl, by decide +kernel, by decide +kernel⟩
/-! ### _law_tight_lots -/
def sp__law_tight_lots (_ : PySem.W.Frag) (_ : List Addr) : Sp := fun vs H Q _ => ∃ (v : V) (n : Nat) (ts : List (Int × Int)) (k : Int) (u : Addr) (ws : List V), vs = [v, .int k, .ref u] ∧ Web H v n ts ∧ n ≤ 10 ∧ H u = some (.tup ws) ∧ LayK ts k ws ∧ 0 ≤ k ∧ k ≤ 1000 ∧ ts.length ≤ 1000 ∧
  ∀ H' p xs, Ke H H' → H p = none → H' p = some (.lst xs) → Lots H' xs (tightF n ts k ws) → Q (.ref p) H'
abbrev nm__law_is_part : List Str := ["_law_lot", "_law_other", "_law_k"]
theorem sc__law_is_part : FnScope nm__law_is_part ["_law_lot", "_law_other"] (defScope s_law_is_part) := ⟨rfl, rfl, rfl, by decide +kernel, rfl, by decide +kernel, by decide +kernel⟩
/-! ### _law_is_part -/
def sp__law_is_part (_ : PySem.W.Frag) (_ : List Addr) : Sp := fun vs H Q _ => ∃ (a b : Addr) (xs ys : List Int), vs = [.ref a, .ref b] ∧ H a = some (.tup (xs.map V.int)) ∧ H b = some (.tup (ys.map V.int)) ∧ xs.length ≤ 1000 ∧
  ∀ H', Ke H H' → Q (.bl (inLotB xs ys)) H'
abbrev nm__law_greatest : List Str := ["_law_lots_here", "_law_lot", "_law_other"]
theorem sc__law_greatest : FnScope nm__law_greatest ["_law_lots_here"] (defScope s_law_greatest) := ⟨rfl, rfl, rfl, by decide +kernel, rfl, by decide +kernel, by decide +kernel⟩
def csc__law_greatest_1_11 : Scope := { kind := .function, names := [(".0", .local), ("_law_lot", .cell), ("_law_lots_here", .free)], isGenerator := false, isCoroutine := false, more := [] }
/-! ### _law_greatest -/
def sp__law_greatest (_ : PySem.W.Frag) (_ : List Addr) : Sp := fun vs H Q _ => ∃ (l : Addr) (rs : List V) (lots : List (List Int)), vs = [.ref l] ∧ H l = some (.lst rs) ∧ Lots H rs lots ∧ lots.length ≤ 10000 ∧ (∀ ls ∈ lots, ls.length ≤ 1000) ∧
  ∀ H' p xs, Ke H H' → H p = none → H' p = some (.lst xs) → Lots H' xs (greatF lots) → Q (.ref p) H'
abbrev nm_law : List Str := ["_law_script", "_law_deck_here", "_law_asked", "_law_turn", "_law_web_here", "_law_many", "_law_laying_here", "_law_k", "_law_due", "_law_found", "_law_lot"]
theorem sc_law : FnScope nm_law ["_law_script"] (defScope s_law) := ⟨rfl, rfl, rfl, by decide +kernel, rfl, by decide +kernel, by decide +kernel⟩
/-! ### law -/
def sp_law (K : PySem.W.Frag) (tb : List Addr) : Sp := fun vs H Q _ => ∃ (a : Addr) (ns : List Int), vs = [.ref a] ∧ SqL K H a (ns.map V.int) ∧ ns.length ≤ 63 ∧ Tabs tb H ∧ ∀ H', Q (.bl true) H'
theorem law_start {K : PySem.W.Frag} {tb : List Addr} {H : Hp} {a : Addr} {ns : List Int} (hl : ns.length ≤ 63) (_ : ∀ z ∈ ns, Builtin.Int.intBits z ≤ 1048576) (hT : Tabs tb H) (hS : SqL K H a (ns.map V.int)) : sp_law K tb [.ref a] H (fun v _ => v = .bl true) (fun _ _ _ => False) :=
  ⟨a, ns, rfl, hS, hl, hT, fun _ => rfl⟩
end FF
namespace FF
open PySem PySem.Spec PyProof.Rows L2
variable [LT]
theorem ok_leader_of {P : Program} {w : World} {K : PySem.W.Frag} {mg : Str → Option Value} {base : Heap} {tb : List Addr} {f : Addr} {fd : FuncData} (T : Blt mg) (D_leader_of : DefAt K mg "leader_of" s_leader_of ["leaders", "point"] f fd) :
    FnOk P w K mg base CX0 1 f fd ["leaders", "point"] (sp_leader_of K tb) := by
  refine D_leader_of.ok sc_leader_of (fun vs H Q E h => by
    obtain ⟨p, ls, n, r, d, x, rfl, hp, u, x0, x1, q⟩ := h
    all_goals rfl) fun A outer s H vs Q E hr h => ?_
  obtain ⟨p, ls, n, r, d, x, rfl, hp, u, x0, x1, q⟩ := h
  refine ⟨_, pss_cons (ps_while PassesOwn.never (pt_cmpR op_ne (pe_ix (ix_listK (K := K)) (pv 0) (pv 1) (fun _ _ => rfl)) (pv 1) (nomark _))
     (pss_cons (ps_asg (pe_ix (ix_listK (K := K)) (pv 0) (pe_ix (ix_listK (K := K)) (pv 0) (pv 1) (fun _ _ => rfl)) (fun _ _ => rfl)) (pg_sub (pv 0) (pv 1) set_list))
     (pss_one (ps_set (i := 1) sc_leader_of.nd rfl (.inl rfl) (pe_ix (ix_listK (K := K)) (pv 0) (pv 1) (fun _ _ => rfl))))))
     (pss_one (ps_ret (pv 1))), ?_⟩
  refine while_by (fun σ G => ∃ (y : Int) (ls' : List Int), σ = [some (.ref p), some (.int y)] ∧ G = upd H p (.lst (ls'.map V.int)) ∧ UF n ls' r d ∧ 0 ≤ y ∧ y < n ∧ r y = r x) (fun σ _ => match σ with | [_, some (.int y)] => d y | _ => 0) ?_ (fun σ G hG => ?_) ?_
  · exact ⟨x, ls, rfl, (upd_id hp).symm, u, x0, x1, rfl⟩
  · obtain ⟨y, ls', rfl, rfl, u', y0, y1, hr⟩ := hG
    have hl := u'.len
    obtain ⟨z0, z1⟩ := u'.rng y y0 y1
    obtain ⟨w0, w1⟩ := u'.rng _ z0 z1
    refine ⟨_, rfl, _, rfl, p, _, _, _, rfl, rfl, sqL_of upd_same, hat_at y0 (by omega), _, rfl, rfl, _, rfl, iteB (fun e => ?_) (fun e => ?_)⟩
    · have hne : hat ls' y ≠ y := fun z => by
        have e : (!decide (V.int (hat ls' y) = V.int y)) = true := e
        rw [z, decide_eq_true rfl] at e
        cases e
      have u2 := u'.half y0 y1 hne
      have hs : hat (ls'.set y.toNat (hat ls' (hat ls' y))) y = hat ls' (hat ls' y) := by rw [hat_set y0 (by omega) y0, if_pos rfl]
      have hdd : d (hat ls' (hat ls' y)) < d y := by
        have h1 := u'.down y y0 y1 hne
        by_cases e : hat ls' (hat ls' y) = hat ls' y
        · rw [e]; exact h1
        · have := u'.down _ z0 z1 e
          omega
      refine ⟨_, rfl, _, rfl, _, rfl, p, _, _, _, rfl, rfl, sqL_of upd_same, hat_at y0 (by omega), p, _, _, _, rfl, rfl, sqL_of upd_same, hat_at z0 (by omega), _, rfl, _, rfl, p, _, _, _, rfl, rfl, upd_same, ix_in y0 (by rw [List.length_map]; omega), ?_⟩
      rw [upd_upd, ← List.map_set]
      refine ⟨_, rfl, _, rfl, p, _, _, _, rfl, rfl, sqL_of upd_same, hat_at y0 (by rw [List.length_set]; omega), ?_⟩
      rw [hs]
      exact ⟨⟨_, _, rfl, rfl, u2, w0, w1, (u'.root _ z0 z1).trans ((u'.root y y0 y1).trans hr)⟩, hdd⟩
    · have he : hat ls' y = y := by
        by_cases z : hat ls' y = y
        · exact z
        · have e : (!decide (V.int (hat ls' y) = V.int y)) = false := e
          rw [decide_eq_false fun q => z (V.int.inj q)] at e
          cases e
      have q1 := q ls' u'
      rw [← hr, u'.top y y0 y1 he] at q1
      exact ⟨_, rfl, q1⟩
  · rintro σ G Q1 Q2 hQ ⟨a, ha, b, hb, p1, xs, i, v, e1, e2, hs, hv, c, hc, hsc, k, hk, hq⟩
    exact ⟨a, ha, b, hb, p1, xs, i, v, e1, e2, hs, hv, c, hc, hsc, k, hk, hQ _ _ hq⟩
theorem ok_join_points {P : Program} {w : World} {K : PySem.W.Frag} {mg : Str → Option Value} {base : Heap} {tb : List Addr} {f : Addr} {fd : FuncData} {f_leader_of : Addr} {fd_leader_of : FuncData} (T : Blt mg) (D_join_points : DefAt K mg "join_points" s_join_points ["leaders", "a", "b"] f fd) (D_leader_of : DefAt K mg "leader_of" s_leader_of ["leaders", "point"] f_leader_of fd_leader_of) (G_leader_of : FnOk P w K mg base CX0 1 f_leader_of fd_leader_of ["leaders", "point"] (sp_leader_of K tb)) :
    FnOk P w K mg base CX0 2 f fd ["leaders", "a", "b"] (sp_join_points K tb) := by
  refine D_join_points.ok sc_join_points (fun vs H Q E h => by
    obtain ⟨p, ls, n, r, d, a, b, rfl, hp, u, a0, a1, b0, b1, q⟩ := h
    all_goals rfl) fun A outer s H vs Q E hr h => ?_
  obtain ⟨p, ls, n, r, d, a, b, rfl, hp, u, a0, a1, b0, b1, q⟩ := h
  refine ⟨_, pss_cons (ps_set (i := 3) sc_join_points.nd rfl (.inl rfl) (pe_call G_leader_of (hr.mono (by decide)) (by rfl) D_leader_of.g D_leader_of.F.kp D_leader_of.b .nil pass0 (pa_cons (pv 0) (pa_cons (pv 1) pa_nil))))
     (pss_cons (ps_set (i := 4) sc_join_points.nd rfl (.inl rfl) (pe_call G_leader_of (hr.mono (by decide)) (by rfl) D_leader_of.g D_leader_of.F.kp D_leader_of.b .nil pass0 (pa_cons (pv 0) (pa_cons (pv 2) pa_nil))))
     (pss_cons (ps_asg (pv 3) (pg_sub (pv 0) (pv 4) set_list))
     (pss_one (ps_ret (pe_cmpR op_ne (pv 3) (pv 4) (nomark _)))))), ?_⟩
  refine ⟨_, rfl, _, rfl, p, ls, n, r, d, a, rfl, hp, u, a0, a1, fun l1 u1 => ?_⟩
  refine ⟨_, rfl, _, rfl, p, l1, n, r, d, b, rfl, upd_same, u1, b0, b1, fun l2 u2 => ?_⟩
  rw [upd_upd]
  obtain ⟨q0, q1, _⟩ := u2.rr b b0 b1
  have hl := u2.len
  refine ⟨_, rfl, _, rfl, _, rfl, p, _, _, _, rfl, rfl, upd_same, ix_in q0 (by rw [List.length_map]; omega), ?_⟩
  rw [upd_upd, ← List.map_set]
  obtain ⟨d', u3⟩ := u2.join a0 a1 b0 b1
  have qq := q _ d' u3
  refine ⟨_, rfl, _, rfl, rfl, ?_⟩
  have e : decide (V.int (r a) = V.int (r b)) = decide (r a = r b) := by
    by_cases z : r a = r b
    · rw [decide_eq_true z, decide_eq_true (congrArg V.int z)]
    · rw [decide_eq_false z, decide_eq_false fun h => z (V.int.inj h)]
  rw [e]
  exact qq
theorem ok_pieces_of {P : Program} {w : World} {K : PySem.W.Frag} {mg : Str → Option Value} {base : Heap} {tb : List Addr} {f : Addr} {fd : FuncData} {f_leader_of : Addr} {fd_leader_of : FuncData} {f_join_points : Addr} {fd_join_points : FuncData} (T : Blt mg) (D_pieces_of : DefAt K mg "pieces_of" s_pieces_of ["web"] f fd) (D_leader_of : DefAt K mg "leader_of" s_leader_of ["leaders", "point"] f_leader_of fd_leader_of) (G_leader_of : FnOk P w K mg base CX0 1 f_leader_of fd_leader_of ["leaders", "point"] (sp_leader_of K tb)) (D_join_points : DefAt K mg "join_points" s_join_points ["leaders", "a", "b"] f_join_points fd_join_points) (G_join_points : FnOk P w K mg base CX0 2 f_join_points fd_join_points ["leaders", "a", "b"] (sp_join_points K tb)) {c Pt : Addr} (TB : LamX.TabB base mg c Pt) (hcd : fd.code = .ref c) (hPt : Pt ∈ tb) :
    FnOk P w K mg base CX0 7 f fd ["web"] (sp_pieces_of K tb) := by
  refine D_pieces_of.ok sc_pieces_of (fun vs H Q E h => by
    obtain ⟨v, n, ts, rfl, W, hok, hn0, hn1, hlen, hT0, q⟩ := h
    all_goals rfl) fun A outer s H vs Q E hr h => ?_
  obtain ⟨v, n, ts, rfl, W, hok, hn0, hn1, hlen, hT0, q⟩ := h
  refine ⟨_, pss_cons (ps_asg (pv 0) (tgtK (K := K) (n := 2) (pgs_cons (pg_name (i := 1) sc_pieces_of.nd rfl (.inl rfl)) (pgs_cons (pg_name (i := 2) sc_pieces_of.nd rfl (.inl rfl)) pgs_nil))))
     (pss_cons (ps_set (i := 3) sc_pieces_of.nd rfl (.inl rfl) (pe_listRg rfl (by rfl) T.b_list (prg_1 (by rfl) T.b_range (pv 1))))
     (pss_cons (ps_for PassesOwn.never rfl (pi_tup (pv 2)) (tgtK (K := K) (n := 2) (pgs_cons (pg_name (i := 4) sc_pieces_of.nd rfl (.inl rfl)) (pgs_cons (pg_name (i := 5) sc_pieces_of.nd rfl (.inl rfl)) pgs_nil)))
     (pss_one (ps_expr (pe_call G_join_points (hr.mono (by decide)) (by rfl) D_join_points.g D_join_points.F.kp D_join_points.b .nil pass0 (pa_cons (pv 3) (pa_cons (pv 4) (pa_cons (pv 5) pa_nil)))))))
     (pss_cons (ps_set (i := 6) sc_pieces_of.nd rfl (.inl rfl) (pe_dnewK))
     (pss_cons (ps_for PassesOwn.never rfl (pi_range1 (by rfl) T.b_range (pa_cons (pv 1) pa_nil)) (pg_name (i := 7) sc_pieces_of.nd rfl (.inl rfl))
     (pss_one (ps_expr (pe_bm PySem.F.plainAttrs_list PySem.F.slot_list_append PySem.F.type_list_append mt_append (pe_dsetd (pv 6) (pe_call G_leader_of (hr.mono (by decide)) (by rfl) D_leader_of.g D_leader_of.F.kp D_leader_of.b .nil pass0 (pa_cons (pv 3) (pa_cons (pv 7) pa_nil))) (pe_lst pa_nil) ⟨rfl, rfl, rfl, rfl⟩) (pa_cons (pv 7) pa_nil)))))
     (pss_one (ps_ret (pe_lock (pe_tuple (k := 0) (vs := [0]) (hr.mono (by decide)) (by rfl) T.b_tuple TB hcd (gxs_of (XN := nm_pieces_of) (xsc := defScope s_pieces_of) (N := ["piece"]) (src := [none]) (by decide +kernel)) (pi_values (pv 6)) ⟨fun _ _ _ _ _ _ => pg_name (i := 0) gnd_pieces_of_0 rfl (.inl rfl), fun _ _ _ _ _ _ hz => pts_nil, fun _ _ _ _ _ _ hz => pe_callTy (tupleK (K := K)) (by rfl) T.b_tuple (by decide +kernel) (pa_cons (pv 0) pa_nil)⟩)))))))), ?_⟩
  have LB := line_big
  obtain ⟨t, w, rs, rfl, ht, hw, hT⟩ := W
  have hrl := hT.length
  refine ⟨_, rfl, t, _, rfl, sqT_of ht, rfl, _, _, rfl, _, [], rfl, rfl, ?_⟩
  refine ⟨_, rfl, n, rfl, ⟨by omega, by omega, by omega, by omega, by omega⟩, fun l nl => ?_⟩
  refine ⟨_, rfl, w, rfl, ⟨_, sqT_of (tup_new nl hw)⟩, ?_⟩
  refine for_tup (K := K) (a := w) (xs := rs) (fun i σ G => ∃ (y4 y5 y6 y7 : Option V) (ls : List Int) (dd : Int → Nat), σ = [some (.ref t), some (.int n), some (.ref w), some (.ref l), y4, y5, y6, y7] ∧ Ke H G ∧ G l = some (.lst (ls.map V.int)) ∧ UF n ls (foldR (fun x => x) (ts.take i)) dd) ⟨_, _, _, _, upTo n, _, rfl, Ke.new nl, by rw [← rgV_up]; exact upd_same, UF.start hn0⟩ (fun i σ G _ hG => ?_) (fun i x σ G hx hG => ?_) (fun σ G hG => ?_)
  · obtain ⟨_, _, _, _, _, _, _, kG, _⟩ := hG
    exact sqT_of (kG.tup hw)
  · obtain ⟨y4, y5, y6, y7, ls, dd, rfl, kG, gl, U⟩ := hG
    obtain ⟨⟨x1, x2⟩, r', hti, rfl, hr'⟩ := hT.get hx
    obtain ⟨ok1, ok2, ok3⟩ := hok _ (List.mem_of_getElem? hti)
    dsimp only at ok1 ok2 ok3
    refine ⟨r', _, rfl, sqT_of (kG.tup hr'), rfl, _, _, rfl, _, [], rfl, rfl, ?_⟩
    refine ⟨_, rfl, _, rfl, _, rfl, l, ls, n, _, dd, x1, x2, rfl, gl, U, ok1, by omega, by omega, ok3, fun ls' d' U' => ?_⟩
    exact ⟨_, _, _, _, ls', d', rfl, kG.over nl, upd_same, by rw [take_next hti, foldR_snoc]; exact U'⟩
  · obtain ⟨y4, y5, y6, y7, ls, dd, rfl, kG, gl, U⟩ := hG
    rw [hrl, List.take_length] at U
    refine fun d nd => ?_
    have nldH : H d = none := kG.dom _ nd
    have nld : l ≠ d := ne_of_none gl nd
    generalize er : foldR (fun x => x) ts = r at *
    refine ⟨_, rfl, n, rfl, by omega, by omega, ?_⟩
    refine for_range (lo := 0) (n := n.toNat) (fun i σ G' => ∃ (y4 y5 y7 : Option V) (ls : List Int) (dd : Int → Nat) (fl : List (Int × Addr)), σ = [some (.ref t), some (.int n), some (.ref w), some (.ref l), y4, y5, some (.ref d), y7] ∧ Ke H G' ∧ G' l = some (.lst (ls.map V.int)) ∧ UF n ls r dd ∧ G' d = some (.dK (kvF fl)) ∧ Byf G' ((upTo i).map fun x => V.int (r x)) fl ∧ fl.map Prod.fst = nub ((upTo i).map r) ∧ fl.length ≤ i ∧ (∀ p ∈ fl, H p.2 = none) ∧ l ∉ fl.map Prod.snd) ⟨_, _, _, ls, dd, [], rfl, kG.trans (Ke.new nd), lst_new nd gl, U, upd_same, ⟨List.nodup_nil, List.nodup_nil, (fun _ z => nomatch z), fun f => ⟨(fun z => nomatch z), (fun z => nomatch z)⟩⟩, rfl, Nat.le_refl _, (fun _ z => nomatch z), (fun z => nomatch z)⟩ (fun i σ G' hi hG' => ?_) (fun σ G' hG' => ?_)
    · obtain ⟨y4, y5, y7, ls, dd, fl, rfl, kG', gl', U', gd', hB, hk, hfl, hfr, nlf⟩ := hG'
      have hii : (i : Int) < n := by omega
      have ndf : d ∉ fl.map Prod.snd := fun w => by
        obtain ⟨p, hp, ep⟩ := List.mem_map.mp w
        have := hB.each p hp
        rw [ep, gd'] at this
        cases this
      refine ⟨_, rfl, d, rfl, .inl ⟨_, .inl gd'⟩, ?_⟩
      refine ⟨_, rfl, _, rfl, l, ls, n, r, dd, _, rfl, gl', U', by omega, by omega, fun ls2 U2 => ?_⟩
      have k2 : Ke H (upd G' l (.lst (ls2.map V.int))) := kG'.over nl
      have gd2 : upd G' l (.lst (ls2.map V.int)) d = some (.dK (kvF fl)) := by rw [upd_ne nld.symm]; exact gd'
      have gl2 : upd G' l (.lst (ls2.map V.int)) l = some (.lst (ls2.map V.int)) := upd_same
      have hB2 := hB.off (o := .lst (ls2.map V.int)) nlf
      generalize upd G' l (.lst (ls2.map V.int)) = G2 at *
      refine ⟨by show 0 ≤ sizeLine; decide, fun z nz => ?_⟩
      have gd3 : upd G2 z (.lst []) d = some (.dK (kvF fl)) := by rw [upd_ne (ne_of_none gd2 nz)]; exact gd2
      have gl3 := lst_new (o := .lst []) nz gl2
      have hB3 := hB2.ke (Ke.new (o := .lst []) nz)
      have k3 : Ke H (upd G2 z (.lst [])) := k2.trans (Ke.new nz)
      have nzH : H z = none := k2.dom _ nz
      have nzf : z ∉ fl.map Prod.snd := fun w => by
        obtain ⟨p, hp, ep⟩ := List.mem_map.mp w
        have := hB2.each p hp
        rw [ep, nz] at this
        cases this
      have ndz : d ≠ z := ne_of_none gd2 nz
      have nlz : l ≠ z := ne_of_none gl2 nz
      have hwl : ((upTo i).map fun x => V.int (r x)).length = i := by rw [List.length_map, upTo_length]; omega
      have en : ((upTo ((i + 1 : Nat) : Int)).map fun x => V.int (r x)) = ((upTo i).map fun x => V.int (r x)) ++ [.int (r i)] := by
        rw [show ((i + 1 : Nat) : Int) = (i : Int) + 1 by omega, upTo_snoc, List.map_append]
        rfl
      have en2 : nub ((upTo ((i + 1 : Nat) : Int)).map r) = step_dedup (nub ((upTo i).map r)) (r i) := by
        rw [show ((i + 1 : Nat) : Int) = (i : Int) + 1 by omega, upTo_snoc, List.map_append]
        exact nub_snoc _ _
      rw [Int.zero_add]
      refine ⟨kvF fl, .inl (r i), gd3, rfl, by rw [kvF_length]; omega, fun v hv => ?_, fun hv => ?_⟩
      · have hmf : r i ∈ fl.map Prod.fst := by
          by_cases c : r i ∈ fl.map Prod.fst
          · exact c
          · rw [val_out c] at hv
            cases hv
        have en3 : fl.map Prod.fst = nub ((upTo ((i + 1 : Nat) : Int)).map r) := by
          rw [en2, ← hk]
          unfold step_dedup
          rw [if_pos (by simpa using hmf)]
        obtain ⟨⟨f2, q2⟩, hp, ef⟩ := List.mem_map.mp hmf
        have ef : f2 = r i := ef
        subst ef
        rw [val_in hB3.nd hp] at hv
        cases hv
        have gq := hB3.each _ hp
        have nqd : d ≠ q2 := fun w => ndf (w ▸ List.mem_map.mpr ⟨_, hp, rfl⟩)
        have nql : l ≠ q2 := fun w => nlf (w ▸ List.mem_map.mpr ⟨_, hp, rfl⟩)
        refine ⟨.inl ⟨rfl, _, sqL_of gq⟩, _, rfl, q2, _, _, rfl, rfl, gq, ?_, ?_⟩
        · rw [List.length_map]
          have := nums_length (r i) 0 ((upTo i).map fun x => V.int (r x))
          dsimp only at this ⊢
          omega
        · have hm := hB3.more hp
          rw [hwl] at hm
          exact ⟨_, _, _, ls2, dd, fl, rfl, k3.over (hfr _ hp), by rw [upd_ne nql]; exact gl3, U2, by rw [upd_ne nqd]; exact gd3, by rw [en]; exact hm, en3, by omega, hfr, nlf⟩
      · have hmf : r i ∉ fl.map Prod.fst := fun c => by
          obtain ⟨⟨f2, q2⟩, hp, ef⟩ := List.mem_map.mp c
          have ef : f2 = r i := ef
          subst ef
          rw [val_in hB3.nd hp] at hv
          cases hv
        have en3 : (fl ++ [(r i, z)]).map Prod.fst = nub ((upTo ((i + 1 : Nat) : Int)).map r) := by
          rw [en2, ← hk, List.map_append]
          unfold step_dedup
          rw [if_neg (by simpa using hmf)]
          rfl
        rw [put_out hmf]
        have gz4 : upd (upd G2 z (.lst [])) d (.dK (kvF (fl ++ [(r i, z)]))) z = some (.lst []) := by rw [upd_ne ndz.symm]; exact upd_same
        refine ⟨.inl ⟨rfl, _, sqL_of gz4⟩, _, rfl, z, _, _, rfl, rfl, gz4, by show 0 < sizeLine; decide, ?_⟩
        have hm := (hB3.off (o := .dK (kvF (fl ++ [(r i, z)]))) ndf).first hmf nzf
        rw [hwl] at hm
        refine ⟨_, _, _, ls2, dd, fl ++ [(r i, z)], rfl, (k3.over nldH).over nzH, ?_, U2, ?_, ?_, en3, by rw [List.length_append]; exact Nat.succ_le_succ hfl, fun p hp => ?_, fun w => ?_⟩
        · rw [upd_ne nlz, upd_ne nld]
          exact gl3
        · rw [upd_ne ndz]
          exact upd_same
        · rw [en]
          exact hm
        · rcases List.mem_append.mp hp with hp | hp
          · exact hfr p hp
          · rw [List.mem_singleton.mp hp]
            exact nzH
        · rw [List.map_append] at w
          rcases List.mem_append.mp w with w | w
          · exact nlf w
          · exact nlz (List.mem_singleton.mp w)
    · obtain ⟨y4, y5, y7, ls, dd, fl, rfl, kG', gl', U', gd', hB, hk, hfl, hfr, nlf⟩ := hG'
      have ndf : d ∉ fl.map Prod.snd := fun w => by
        obtain ⟨p, hp, ep⟩ := List.mem_map.mp w
        have := hB.each p hp
        rw [ep, gd'] at this
        cases this
      refine ⟨d, _, gd', trivial, fun od => ?_⟩
      have kB : Ke H (upd G' d (.frz od (.dK (kvF fl)))) := kG'.over nldH
      have B1 := hB.off (o := .frz od (.dK (kvF fl))) ndf
      have gB : (upd G' d (.frz od (.dK (kvF fl)))) d = some (.frz od (.dK (kvF fl))) := upd_same
      generalize upd G' d (.frz od (.dK (kvF fl))) = B at *
      refine ⟨_, rfl, d, od, _, rfl, gB, kB.tab _ (hT0 _ hPt), fun B2 htb2 => ?_⟩
      have kB2 : Ke B B2 := Ke.tabd (kB.tab _ (hT0 _ hPt)) htb2
      refine gx_it (a0 := []) (walk_values (d := d) (o := od) (kvs := kvF fl)) (fun i xs G => Ke B G ∧ xs.length = i ∧ Lots G xs ((fl.take i).map fun p => numsFrom p.1 0 ((upTo n.toNat).map fun x => V.int (r x)))) ⟨kB2, rfl, .nil⟩ (fun i xs G _ hG => hG.1.at_ _ _ gB (fun _ z => nomatch z) fun z => z) (fun i x xs G G2 hi hG hy => ?_) (fun xs G hG => ?_)
      · obtain ⟨kG, hxl, hF⟩ := hG
        obtain ⟨rfl, kk, hkx⟩ := hy
        unfold kvF at hkx
        rw [List.getElem?_map] at hkx
        cases ep : fl[i]? with
        | none => rw [ep] at hkx; cases hkx
        | some pr =>
          rw [ep] at hkx
          cases hkx
          have hpm := List.mem_of_getElem? ep
          have hil : i < fl.length := (List.getElem?_eq_some_iff.mp ep).1
          refine ⟨rfl, yes_ite ?_⟩
          refine ⟨_, rfl, pr.2, _, rfl, .inl ⟨sqL_of (kG.lst (B1.each pr hpm)), fun c nc => ?_⟩⟩
          refine ⟨by omega, kG.trans (Ke.new nc), by rw [List.length_append, hxl]; rfl, ?_⟩
          rw [take_next ep, List.map_append]
          exact (hF.new nc).append (Lots.one upd_same)
      · obtain ⟨kG, hxl, hF⟩ := hG
        rw [kvF_length] at hxl
        rw [kvF_length, List.take_length] at hF
        refine ⟨by omega, fun q1 nq => ?_⟩
        have gBG := kG.at_ _ _ gB (fun _ z => nomatch z) fun z => z
        have nqd : d ≠ q1 := ne_of_none gBG nq
        have gB3 : upd G q1 (.tup xs) d = some (.frz od (.dK (kvF fl))) := by rw [upd_ne nqd]; exact gBG
        refine ⟨gB3, ?_⟩
        refine q _ q1 xs (((kB.trans kG).trans (Ke.new nq)).over nldH) ((kB.trans kG).dom _ nq) (by rw [upd_ne nqd.symm]; exact upd_same) ?_
        have e2 : piecesF r n = fl.map fun p => numsFrom p.1 0 ((upTo n.toNat).map fun x => V.int (r x)) := by
          have z := pieces_keys r n.toNat (fs := fl.map Prod.fst) hk
          rw [show ((n.toNat : Nat) : Int) = n by omega] at z ⊢
          rw [← z, List.map_map]
          rfl
        rw [e2]
        exact (hF.new nq).mono fun a ys e => by rw [upd_ne (ne_of e gB3 (fun z => nomatch z))]; exact e
theorem ok_bounded_web {P : Program} {w : World} {K : PySem.W.Frag} {mg : Str → Option Value} {base : Heap} {tb : List Addr} {f : Addr} {fd : FuncData} (T : Blt mg) (D_bounded_web : DefAt K mg "bounded_web" s_bounded_web ["points", "ties"] f fd) :
    FnOk P w K mg base CX0 1 f fd ["points", "ties"] (sp_bounded_web K tb) := by
  refine D_bounded_web.ok sc_bounded_web (fun vs H Q E h => by
    obtain ⟨n, ts, u, rs, rfl, hu, hT, hn, hlen, q⟩ := h
    all_goals rfl) fun A outer s H vs Q E hr h => ?_
  obtain ⟨n, ts, u, rs, rfl, hu, hT, hn, hlen, q⟩ := h
  refine ⟨_, pss_cons (ps_if (PW.pt (pw_or (pt_cmpR op_gt (pv 0) (pe_glob (v := .int 40) (by rfl) T.c_MOST_POINTS.choose_spec ⟨_, rfl⟩) (nomark _)) (pw_or1 (pt_cmpR op_gt (pe_callB (lenK (K := K)) (by rfl) T.b_len PySem.boot_len (pa_cons (pv 1) pa_nil)) (pe_glob (v := .int 120) (by rfl) T.c_MOST_TIES.choose_spec ⟨_, rfl⟩) (nomark _)))))
     (pss_one (ps_never))
     (pss_nil))
     (pss_one (ps_ret (pe_tup (pa_cons (pv 0) (pa_cons (pv 1) pa_nil))))), ?_⟩
  have LB := line_big
  have hrl := hT.length
  refine ⟨_, rfl, _, _, rfl, rfl, _, rfl, ?_⟩
  rw [decide_eq_false (by omega : ¬ n > 40)]
  refine iteF ?_
  refine ⟨_, rfl, u, _, rfl, .inr (sqT_of hu), _, _, rfl, rfl, _, rfl, ?_⟩
  rw [decide_eq_false (by omega : ¬ (rs.length : Int) > 120)]
  refine iteF ?_
  refine ⟨_, rfl, _, rfl, by show 2 ≤ sizeLine; decide, fun c nc => ?_⟩
  exact q _ _ (Ke.new nc) ⟨c, u, rs, rfl, upd_same, tup_new nc hu, hT.new nc⟩
theorem ok_tie_of {P : Program} {w : World} {K : PySem.W.Frag} {mg : Str → Option Value} {base : Heap} {tb : List Addr} {f : Addr} {fd : FuncData} (T : Blt mg) (D_tie_of : DefAt K mg "tie_of" s_tie_of ["a", "b"] f fd) :
    FnOk P w K mg base CX0 1 f fd ["a", "b"] (sp_tie_of K tb) := by
  refine D_tie_of.ok sc_tie_of (fun vs H Q E h => by
    obtain ⟨a, b, rfl, q⟩ := h
    all_goals rfl) fun A outer s H vs Q E hr h => ?_
  obtain ⟨a, b, rfl, q⟩ := h
  refine ⟨_, pss_one (ps_ret (pe_tup (pa_cons (pe_callB (call_min2 rfl) (by rfl) T.b_min (by decide +kernel) (pa_cons (pv 0) (pa_cons (pv 1) pa_nil))) (pa_cons (pe_callB (call_max2 rfl) (by rfl) T.b_max (by decide +kernel) (pa_cons (pv 0) (pa_cons (pv 1) pa_nil))) pa_nil)))), ?_⟩
  exact ⟨_, rfl, _, rfl, _, _, rfl, _, rfl, _, rfl, _, _, rfl, by show 2 ≤ sizeLine; decide, fun p np => q p np⟩
theorem ok_with_tie {P : Program} {w : World} {K : PySem.W.Frag} {mg : Str → Option Value} {base : Heap} {tb : List Addr} {f : Addr} {fd : FuncData} {f_bounded_web : Addr} {fd_bounded_web : FuncData} {f_tie_of : Addr} {fd_tie_of : FuncData} (T : Blt mg) (D_with_tie : DefAt K mg "with_tie" s_with_tie ["web", "a", "b"] f fd) (D_bounded_web : DefAt K mg "bounded_web" s_bounded_web ["points", "ties"] f_bounded_web fd_bounded_web) (G_bounded_web : FnOk P w K mg base CX0 1 f_bounded_web fd_bounded_web ["points", "ties"] (sp_bounded_web K tb)) (D_tie_of : DefAt K mg "tie_of" s_tie_of ["a", "b"] f_tie_of fd_tie_of) (G_tie_of : FnOk P w K mg base CX0 1 f_tie_of fd_tie_of ["a", "b"] (sp_tie_of K tb)) :
    FnOk P w K mg base CX0 2 f fd ["web", "a", "b"] (sp_with_tie K tb) := by
  refine D_with_tie.ok sc_with_tie (fun vs H Q E h => by
    obtain ⟨v, n, ts, a, b, rfl, W, hn, hlen, q⟩ := h
    all_goals rfl) fun A outer s H vs Q E hr h => ?_
  obtain ⟨v, n, ts, a, b, rfl, W, hn, hlen, q⟩ := h
  refine ⟨_, pss_one (ps_ret (pe_call G_bounded_web (hr.mono (by decide)) (by rfl) D_bounded_web.g D_bounded_web.F.kp D_bounded_web.b .nil pass0 (pa_cons (pe_ix (ix_tupK (K := K)) (pv 0) (pe_int) (fun _ _ => rfl)) (pa_cons (pe_op (catU (K := K)) (pe_ix (ix_tupK (K := K)) (pv 0) (pe_int) (fun _ _ => rfl)) (pe_tup (pa_cons (pe_call G_tie_of (hr.mono (by decide)) (by rfl) D_tie_of.g D_tie_of.F.kp D_tie_of.b .nil pass0 (pa_cons (pv 1) (pa_cons (pv 2) pa_nil))) pa_nil))) pa_nil)))), ?_⟩
  have LB := line_big
  obtain ⟨tw, w0, rs, rfl, htw, hw0, hT⟩ := id W
  have hrl := hT.length
  refine ⟨_, rfl, tw, _, 0, _, rfl, rfl, sqT_of htw, atI_nat (j := 0) rfl, ?_⟩
  refine ⟨_, rfl, tw, _, 1, _, rfl, rfl, sqT_of htw, atI_nat (j := 1) rfl, ?_⟩
  refine ⟨_, rfl, _, rfl, a, b, rfl, fun p np => ⟨by show 1 ≤ sizeLine; decide, fun z nz => ?_⟩⟩
  have k1 : Ke H (upd (upd H p (.tup [.int (if b < a then b else a), .int (if b > a then b else a)])) z (.tup [.ref p])) := (Ke.new np).trans (Ke.new nz)
  have gp := tup_new (o := .tup [.ref p]) nz (upd_same (H := H) (a := p) (o := .tup [.int (if b < a then b else a), .int (if b > a then b else a)]))
  refine ⟨w0, z, rs, [.ref p], rfl, rfl, k1.tup hw0, upd_same, by show rs.length + 1 ≤ sizeLine; omega, fun y H' k2 hy => ?_⟩
  refine ⟨n, ts ++ [(if b < a then b else a, if b > a then b else a)], y, _, rfl, hy, ((hT.ke k1).append (Ties.one gp)).ke k2, hn, by rw [List.length_append]; show ts.length + 1 ≤ 120; omega, fun H2 v' k3 W2 => q H2 v' ((k1.trans k2).trans k3) W2⟩
theorem ok_ties_by_forest {P : Program} {w : World} {K : PySem.W.Frag} {mg : Str → Option Value} {base : Heap} {tb : List Addr} {f : Addr} {fd : FuncData} (T : Blt mg) (D_ties_by_forest : DefAt K mg "ties_by_forest" s_ties_by_forest ["laying"] f fd) :
    FnOk P w K mg base CX0 1 f fd ["laying"] (sp_ties_by_forest K tb) := by
  refine D_ties_by_forest.ok sc_ties_by_forest (fun vs H Q E h => by
    obtain ⟨u, ws, rfl, hu, hO, hlen, q⟩ := h
    all_goals rfl) fun A outer s H vs Q E hr h => ?_
  obtain ⟨u, ws, rfl, hu, hO, hlen, q⟩ := h
  refine ⟨_, pss_cons (ps_set (i := 1) sc_ties_by_forest.nd rfl (.inl rfl) (pe_dnewK))
     (pss_cons (ps_for PassesOwn.never rfl (pi_enumT (K := K) (by rfl) T.b_enumerate (pa_cons (pv 0) pa_nil)) (tgtK (K := K) (n := 2) (pgs_cons (pg_name (i := 2) sc_ties_by_forest.nd rfl (.inl rfl)) (pgs_cons (pg_name (i := 3) sc_ties_by_forest.nd rfl (.inl rfl)) pgs_nil)))
     (pss_one (ps_if (pt_cmpR op_notN (pv 3) (pe_non) (nomark _))
     (pss_one (ps_expr (pe_bm PySem.F.plainAttrs_list PySem.F.slot_list_append PySem.F.type_list_append mt_append (pe_dsetd (pv 1) (pv 3) (pe_lst pa_nil) ⟨rfl, rfl, rfl, rfl⟩) (pa_cons (pv 2) pa_nil))))
     (pss_nil))))
     (pss_one (ps_ret (pv 1)))), ?_⟩
  have LB := line_big
  refine fun d nd => ?_
  refine ⟨_, rfl, u, ws, rfl, sqT_of (tup_new nd hu), ?_⟩
  refine for_it (walk_enumT (K := K) (a := u) (xs := ws)) (fun i σ G => ∃ (y2 y3 : Option V) (fl : List (Int × Addr)), σ = [some (.ref u), some (.ref d), y2, y3] ∧ Ke H G ∧ G d = some (.dK (kvF fl)) ∧ Byf G (ws.take i) fl ∧ fl.length ≤ i ∧ ∀ p ∈ fl, H p.2 = none) ⟨_, _, [], rfl, Ke.new nd, upd_same, ⟨List.nodup_nil, List.nodup_nil, (fun _ z => nomatch z), fun f => ⟨(fun z => nomatch z), (fun z => nomatch z)⟩⟩, Nat.le_refl _, fun _ z => nomatch z⟩ (fun i σ G _ hG => ?_) (fun i x σ G G1 hi hG hy => ?_) (fun σ G hG => ?_)
  · obtain ⟨_, _, _, _, kG, _⟩ := hG
    exact sqT_of (kG.tup hu)
  · obtain ⟨y2, y3, fl, rfl, kG, gd, hB, hfl, hfr⟩ := hG
    obtain ⟨T1, z1, z2, rfl, nT, rfl, e1, e2⟩ := hy
    have e1 : some (V.int (i : Int)) = some z1 := e1
    have e2 : ws[i]? = some z2 := e2
    cases e1
    have en := take_next e2
    have hti : (ws.take i).length = i := by rw [List.length_take]; omega
    have kT : Ke G (upd G T1 (.tup [.int (i : Int), z2])) := Ke.new nT
    have hT1 : upd G T1 (.tup [.int (i : Int), z2]) T1 = some (.tup [.int (i : Int), z2]) := upd_same
    obtain ⟨G2, eG2⟩ : ∃ G2, G2 = upd G T1 (.tup [.int (i : Int), z2]) := ⟨_, rfl⟩
    rw [← eG2] at kT hT1 ⊢
    have gd2 : G2 d = some (.dK (kvF fl)) := kT.at_ _ _ gd (fun _ z => nomatch z) fun z => z
    have hB2 := hB.ke kT
    have k2 : Ke H G2 := kG.trans kT
    refine ⟨T1, _, rfl, sqT_of hT1, rfl, _, _, rfl, _, [], rfl, rfl, ?_⟩
    refine ⟨_, rfl, rfl, _, rfl, iteB (fun hb => ?_) (fun hb => ?_)⟩
    · obtain ⟨f1, rfl⟩ : ∃ f1, z2 = .int f1 := by
        rcases hO z2 (List.mem_of_getElem? e2) with z | z
        · rw [z] at hb
          cases hb
        · exact z
      refine ⟨_, rfl, d, rfl, .inl ⟨_, .inl gd2⟩, _, rfl, by show 0 ≤ sizeLine; decide, fun z nz => ?_⟩
      have gd3 : upd G2 z (.lst []) d = some (.dK (kvF fl)) := by rw [upd_ne (ne_of_none gd2 nz)]; exact gd2
      have hB3 : Byf (upd G2 z (.lst [])) (ws.take i) fl := hB2.ke (Ke.new nz)
      have k3 : Ke H (upd G2 z (.lst [])) := k2.trans (Ke.new nz)
      have nzH : H z = none := k2.dom _ nz
      have nzf : z ∉ fl.map Prod.snd := fun w => by
        obtain ⟨p, hp, ep⟩ := List.mem_map.mp w
        have := hB2.each p hp
        rw [ep, nz] at this
        cases this
      have ndf : d ∉ fl.map Prod.snd := fun w => by
        obtain ⟨p, hp, ep⟩ := List.mem_map.mp w
        have := hB2.each p hp
        rw [ep, gd2] at this
        cases this
      have ndz : d ≠ z := ne_of_none gd2 nz
      refine ⟨kvF fl, .inl f1, gd3, rfl, by rw [kvF_length]; omega, fun v hv => ?_, fun hv => ?_⟩
      · have hmf : f1 ∈ fl.map Prod.fst := by
          by_cases c : f1 ∈ fl.map Prod.fst
          · exact c
          · rw [val_out c] at hv
            cases hv
        obtain ⟨⟨f2, q2⟩, hp, rfl⟩ := List.mem_map.mp hmf
        rw [val_in hB3.nd hp] at hv
        cases hv
        have gq := hB3.each _ hp
        have nqd : d ≠ q2 := fun w => ndf (w ▸ List.mem_map.mpr ⟨_, hp, rfl⟩)
        refine ⟨.inl ⟨rfl, _, sqL_of gq⟩, _, rfl, q2, _, _, rfl, rfl, gq, ?_, ?_⟩
        · rw [List.length_map]
          have := nums_length f2 0 (ws.take i)
          dsimp only at this ⊢
          omega
        · have hm := hB3.more hp
          rw [hti] at hm
          refine ⟨_, _, fl, rfl, k3.over (hfr _ hp), ?_, ?_, by omega, hfr⟩
          · rw [upd_ne nqd]
            exact gd3
          · rw [en]
            exact hm
      · have hmf : f1 ∉ fl.map Prod.fst := fun c => by
          obtain ⟨⟨f2, q2⟩, hp, rfl⟩ := List.mem_map.mp c
          rw [val_in hB3.nd hp] at hv
          cases hv
        rw [put_out hmf]
        have gz4 : upd (upd G2 z (.lst [])) d (.dK (kvF (fl ++ [(f1, z)]))) z = some (.lst []) := by rw [upd_ne ndz.symm]; exact upd_same
        refine ⟨.inl ⟨rfl, _, sqL_of gz4⟩, _, rfl, z, _, _, rfl, rfl, gz4, by show 0 < sizeLine; decide, ?_⟩
        have hm := (hB3.off (o := .dK (kvF (fl ++ [(f1, z)]))) ndf).first hmf nzf
        rw [hti] at hm
        refine ⟨_, _, fl ++ [(f1, z)], rfl, (k3.over nd).over nzH, ?_, ?_, by rw [List.length_append]; exact Nat.succ_le_succ hfl, fun p hp => ?_⟩
        · rw [upd_ne ndz]
          exact upd_same
        · rw [en]
          exact hm
        · rcases List.mem_append.mp hp with hp | hp
          · exact hfr p hp
          · rw [List.mem_singleton.mp hp]
            exact nzH
    · have hz : z2 = .non := by
        rcases hO z2 (List.mem_of_getElem? e2) with z | ⟨z, w⟩
        · exact z
        · rw [w] at hb
          cases hb
      rw [hz] at en
      exact ⟨_, _, fl, rfl, k2, gd2, by rw [en]; exact hB2.skip, by omega, hfr⟩
  · obtain ⟨_, _, fl, rfl, kG, gd, hB, _, _⟩ := hG
    rw [List.take_length] at hB
    exact ⟨_, rfl, q G d fl kG nd gd hB⟩
theorem ok_hang_tree {P : Program} {w : World} {K : PySem.W.Frag} {mg : Str → Option Value} {base : Heap} {tb : List Addr} {f : Addr} {fd : FuncData} (T : Blt mg) (D_hang_tree : DefAt K mg "hang_tree" s_hang_tree ["steps", "hung", "top"] f fd) :
    FnOk P w K mg base CX0 1 f fd ["steps", "hung", "top"] (sp_hang_tree K tb) := by
  refine D_hang_tree.ok sc_hang_tree (fun vs H Q E h => by
    obtain ⟨s1, h, qs, n, ts, ms, adj, ds, top, rfl, hS, hG, hA, hP, t0, t1, hn, nsh, nqh, hn1, hml, q⟩ := h
    all_goals rfl) fun A outer s H vs Q E hr h => ?_
  obtain ⟨s1, h, qs, n, ts, ms, adj, ds, top, rfl, hS, hG, hA, hP, t0, t1, hn, nsh, nqh, hn1, hml, q⟩ := h
  refine ⟨_, pss_cons (ps_asg (pe_tup (pa_cons (pv 2) (pa_cons (pe_int) (pa_cons (pe_non) (pa_cons (pe_non) pa_nil))))) (pg_sub (pv 1) (pv 2) set_list))
     (pss_cons (ps_set (i := 3) sc_hang_tree.nd rfl (.inl rfl) (pe_lst (pa_cons (pv 2) pa_nil)))
     (pss_one (ps_while PassesOwn.never (pt_truth (pv 3) (by intro _; rfl))
     (pss_cons (ps_set (i := 4) sc_hang_tree.nd rfl (.inl rfl) (pe_bm0 PySem.F.plainAttrs_list PySem.F.slot_list_pop PySem.F.type_list_pop mt_pop (pv 3)))
     (pss_cons (ps_set (i := 5) sc_hang_tree.nd rfl (.inl rfl) (pe_op op_add (pe_ix (ix_tupK (K := K)) (pe_ix (ix_listK (K := K)) (pv 1) (pv 4) (fun _ _ => rfl)) (pe_int) (fun _ _ => rfl)) (pe_int)))
     (pss_one (ps_for PassesOwn.never rfl (pi_list (pe_ix (ix_listK (K := K)) (pv 0) (pv 4) (fun _ _ => rfl))) (tgtK (K := K) (n := 2) (pgs_cons (pg_name (i := 6) sc_hang_tree.nd rfl (.inl rfl)) (pgs_cons (pg_name (i := 7) sc_hang_tree.nd rfl (.inl rfl)) pgs_nil)))
     (pss_one (ps_if (pt_cmpR op_isN (pe_ix (ix_listK (K := K)) (pv 1) (pv 6) (fun _ _ => rfl)) (pe_non) (nomark _))
     (pss_cons (ps_asg (pe_tup (pa_cons (pv 2) (pa_cons (pv 5) (pa_cons (pv 4) (pa_cons (pv 7) pa_nil))))) (pg_sub (pv 1) (pv 6) set_list))
     (pss_one (ps_expr (pe_bm PySem.F.plainAttrs_list PySem.F.slot_list_append PySem.F.type_list_append mt_append (pv 3) (pa_cons (pv 6) pa_nil)))))
     (pss_nil)))))))))), ?_⟩
  have LB := line_big
  have hl := hP.len
  refine ⟨_, rfl, by show 4 ≤ sizeLine; decide, fun q0 nq0 => ?_⟩
  have k0 : Ke H (upd H q0 (.tup [.int top, .int 0, .non, .non])) := Ke.new nq0
  have hG0 := hG.ke k0
  have hS0 := hS.ke k0
  have hq0 : (upd H q0 (.tup [.int top, .int 0, .non, .non])) q0 = some (.tup (Nd.vals ⟨top, 0, none⟩)) := upd_same
  obtain ⟨vs, hvs, hvl, hG1⟩ := hG0.set t0 (by omega) hq0
  have hn1' : (vs.length : Int) = n := by omega
  refine ⟨_, rfl, _, rfl, h, vs, _, _, rfl, rfl, hvs, ix_in t0 (by omega), ?_⟩
  have hd0 : atN (ds.set top.toNat (some ⟨top, 0, none⟩)) top = some ⟨top, 0, none⟩ := by rw [atN_set t0 (by omega) t0, if_pos rfl]
  obtain ⟨ex1, hP1⟩ := hP.hang (d := ⟨top, 0, none⟩) t0 t1 hn ⟨⟨t0, t1⟩, hd0, fun _ => ⟨rfl, rfl⟩, (fun _ _ z => nomatch z), Int.le_refl _⟩
  have hb1 := bareN_set (d := ⟨top, 0, none⟩) (show ds[top.toNat]? = some none by rw [atN_get t0 (by omega), hn])
  have hbl : bareN ds ≤ ds.length := List.countP_le_length
  have k1 : Kx (fun b => b = h) H (upd (upd H q0 (.tup [.int top, .int 0, .non, .non])) h (.lst (vs.set top.toNat (.ref q0)))) := k0.to.trans (Ke.put hvs (fun _ z => nomatch z))
  have hS1 : Stp (upd (upd H q0 (.tup [.int top, .int 0, .non, .non])) h (.lst (vs.set top.toNat (.ref q0)))) s1 qs adj := hS0.kx (Ke.put hvs (fun _ z => nomatch z)) nsh (fun q hq z => nqh (z ▸ hq)) fun q xs e z => by rw [z, hvs] at e; cases e
  generalize upd (upd H q0 _) h _ = G1 at *
  generalize ds.set top.toNat (some ⟨top, 0, none⟩) = ds1 at *
  refine ⟨_, rfl, by show 1 ≤ sizeLine; decide, fun w nw => ?_⟩
  have nwH : H w = none := k1.dom _ nw
  obtain ⟨hv1, hgh1, _⟩ := hG1.ex
  have nwh : w ≠ h := fun z => by rw [z] at nw; rw [nw] at hgh1; cases hgh1
  have adl := hA.len
  unfold gName
  dsimp only
  refine while_gh (α := List Int × Nds) (fun a σ G => ∃ (y4 y5 y6 y7 : Option V), σ = [some (.ref s1), some (.ref h), some (.int top), some (.ref w), y4, y5, y6, y7] ∧ Kx (fun b => b = h) H G ∧ Hg G h a.2 ∧ Stp G s1 qs adj ∧ G w = some (.lst (a.1.map V.int)) ∧ w ∉ qs ∧ w ≠ s1 ∧ Part n ts ms adj a.2 (fun x => x ∈ a.1) ∧ Wait n a.2 top a.1 ∧ Ext n ds a.2 ∧ atN a.2 top ≠ none ∧ a.1.length + bareN a.2 ≤ n.toNat) (fun a => 2 * bareN a.2 + a.1.length) ([top], ds1) ?_ (fun a σ G hW => ?_) ?_
  · have kw : Ke G1 (upd G1 w (.lst [.int top])) := Ke.new nw
    refine ⟨_, _, _, _, rfl, k1.trans kw.to, hG1.ke kw, hS1.ke kw, upd_same, fun z => ?_, fun z => ?_, hP1.weak fun x _ _ z => z.elim False.elim fun e => by rw [e]; exact List.mem_cons_self, fun x hx => ?_, ex1, by rw [hd0]; exact fun z => (nomatch z), ?_⟩
    · obtain ⟨i, hi⟩ := List.getElem?_of_mem z
      obtain ⟨rs, e, _⟩ := hS1.each i w hi
      rw [nw] at e
      cases e
    · rw [z, hS1.at_] at nw
      cases nw
    · rw [List.mem_singleton.mp hx]
      exact ⟨⟨t0, t1⟩, _, hd0, rfl⟩
    · show 1 + bareN ds1 ≤ n.toNat
      omega
  · obtain ⟨ws, d1⟩ := a
    obtain ⟨y4, y5, y6, y7, rfl, kG, gG, sG, gw, nwq, nws, pG, wG, exG, htp, hsz⟩ := hW
    dsimp only at gG gw pG wG exG htp hsz
    refine ⟨_, rfl, _, .inl ⟨_, sqL_of gw, rfl⟩, ?_⟩
    by_cases ew : ws = []
    · subst ew
      refine iteF ?_
      exact q G d1 kG gG (pG.weak fun x _ _ z => nomatch z) exG htp
    obtain ⟨wd, pt, rfl⟩ : ∃ wd pt, ws = wd ++ [pt] := ⟨ws.dropLast, ws.getLast ew, (List.dropLast_concat_getLast ew).symm⟩
    have hb : (!((wd ++ [pt]).map V.int).isEmpty) = true := by
      cases wd <;> rfl
    rw [hb]
    refine iteT ?_
    have hlast : ((wd ++ [pt]).map V.int)[((wd ++ [pt]).map V.int).length - 1]? = some (.int pt) := by
      rw [List.length_map, List.length_append, List.map_append, List.getElem?_append_right (by rw [List.length_map]; exact Nat.le_refl _), List.length_map]
      show [V.int pt][wd.length + 1 - 1 - wd.length]? = _
      rw [show wd.length + 1 - 1 - wd.length = 0 by omega]
      rfl
    have hdr : ((wd ++ [pt]).map V.int).dropLast = wd.map V.int := by rw [List.map_append]; exact List.dropLast_concat
    refine ⟨_, rfl, .inl ⟨rfl, _, sqL_of gw⟩, w, _, _, rfl, rfl, gw, hlast, ?_⟩
    have hpm : pt ∈ wd ++ [pt] := List.mem_append_right _ List.mem_cons_self
    obtain ⟨⟨p0, p1⟩, dp, hdp, hdt⟩ := wG _ hpm
    rw [hdr]
    have hdl : (wd ++ [pt]).length = wd.length + 1 := by rw [List.length_append]; rfl
    have okp := pG.ok pt dp p0 p1 hdp
    have kw2 : Kx (fun b => b = w) G (upd G w (.lst (wd.map V.int))) := Ke.put gw (fun _ z => nomatch z)
    have nwt : ∀ a xs, G a = some (.tup xs) → a ≠ w := fun a xs e z => by rw [z, gw] at e; cases e
    have gG2 : Hg (upd G w (.lst (wd.map V.int))) h d1 := gG.kx kw2 nwh.symm nwt
    have sG2 : Stp (upd G w (.lst (wd.map V.int))) s1 qs adj := sG.kx kw2 nws.symm (fun q hq z => nwq (z ▸ hq)) nwt
    have kG2 : Kx (fun b => b = h) H (upd G w (.lst (wd.map V.int))) := kG.over nwH
    have gw2 : (upd G w (.lst (wd.map V.int))) w = some (.lst (wd.map V.int)) := upd_same
    generalize upd G w _ = G2 at *
    have pG2 : Part n ts ms adj d1 (fun x => x ∈ wd ∨ x = pt) := pG.weak fun x _ _ z => (List.mem_append.mp z).imp id List.mem_singleton.mp
    have wG2 : Wait n d1 top wd := fun x hx => wG x (List.mem_append_left _ hx)
    have hdl1 := pG.len
    obtain ⟨vs2, v2, hs2, ha2, hn2⟩ := gG2.val (K := K) p0 (by omega)
    rw [hdp] at hn2
    obtain ⟨qn, rfl, hqn⟩ := hn2
    refine ⟨_, rfl, _, rfl, h, vs2, _, _, rfl, rfl, hs2, ha2, qn, _, 1, _, rfl, rfl, sqT_of hqn, atI_nat (j := 1) dp.vals1, _, _, rfl, rfl, ?_⟩
    obtain ⟨qa, ra, hqam, hqi, hqa, hra, hTa⟩ := sG2.at_pt p0 (by omega)
    refine ⟨_, rfl, _, rfl, s1, _, _, _, rfl, rfl, sqL_of sG2.at_, hqa, qa, rfl, ⟨_, sqL_of hra⟩, ?_⟩
    refine for_list (K := K) (a := qa) (xs := ra) (fun j σ G => ∃ (y6 y7 : Option V) (ws2 : List Int) (d2 : Nds), σ = [some (.ref s1), some (.ref h), some (.int top), some (.ref w), some (.int pt), some (.int (dp.dep + 1)), y6, y7] ∧ Kx (fun b => b = h) H G ∧ Hg G h d2 ∧ Stp G s1 qs adj ∧ G w = some (.lst (ws2.map V.int)) ∧ Part n ts ms adj d2 (fun x => x ∈ ws2 ∨ x = pt) ∧ Wait n d2 top ws2 ∧ Ext n d1 d2 ∧ ws2.length + bareN d2 ≤ n.toNat ∧ 2 * bareN d2 + ws2.length < 2 * bareN d1 + (wd ++ [pt]).length ∧ (∀ y m, (y, m) ∈ (stp adj pt).take j → ∃ d', atN d2 y = some d' ∧ d'.top = dp.top) ∧ G qa = some (.lst ra)) ⟨_, _, wd, d1, rfl, kG2, gG2, sG2, gw2, pG2, wG2, .refl, by omega, by omega, (fun _ _ z => nomatch z), hra⟩ (fun j σ G _ hG => ?_) (fun j x σ G hx hG => ?_) (fun σ G hG => ?_)
    · obtain ⟨_, _, _, _, _, _, _, _, _, _, _, _, _, _, _, g⟩ := hG
      exact sqL_of g
    · obtain ⟨y6, y7, ws2, d2, rfl, kG, gG, sG, gw, pG, wG, exd, hsz2, hms, hpre, gqa⟩ := hG
      obtain ⟨qa', ra', _, hqi', _, hra', hTa'⟩ := sG.at_pt p0 (by omega)
      rw [hqi] at hqi'
      cases hqi'
      rw [gqa] at hra'
      cases hra'
      obtain ⟨⟨y, m⟩, q', hyj, rfl, hq'⟩ := hTa'.get hx
      dsimp only at hq'
      have hym := List.mem_of_getElem? hyj
      obtain ⟨hmm, hld⟩ := (hA.mem pt y m p0 p1).mp hym
      obtain ⟨yr0, yr1⟩ := hld.rng (hml m hmm)
      have hl2 := pG.len
      have hdp2 := exd.keep _ _ p0 p1 hdp
      have nexttk : (stp adj pt).take (j + 1) = (stp adj pt).take j ++ [(y, m)] := take_next hyj
      refine ⟨q', _, rfl, sqT_of hq', rfl, _, _, rfl, _, [], rfl, rfl, ?_⟩
      obtain ⟨vs3, v3, hs3, ha3, hn3⟩ := gG.val (K := K) yr0 (by omega)
      refine ⟨_, rfl, _, rfl, h, vs3, _, v3, rfl, rfl, hs3, ha3, rfl, _, rfl, ?_⟩
      cases ey : atN d2 y with
      | none =>
        rw [ey] at hn3
        have hn3 : v3 = .non := hn3
        subst hn3
        refine iteT ?_
        refine ⟨_, rfl, _, rfl, _, rfl, _, rfl, by show 4 ≤ sizeLine; decide, fun qn2 nqn2 => ?_⟩
        have kn : Ke G (upd G qn2 (.tup [.int top, .int (dp.dep + 1), .int pt, .int m])) := Ke.new nqn2
        have hqn2 : (upd G qn2 (.tup [.int top, .int (dp.dep + 1), .int pt, .int m])) qn2 = some (.tup (Nd.vals ⟨top, dp.dep + 1, some (pt, m)⟩)) := upd_same
        obtain ⟨vs4, hvs4, hvl4, gG4⟩ := (gG.ke kn).set yr0 (by omega) hqn2
        have sG4 := sG.ke kn
        have gw4 := kn.lst gw
        have gqa4 := kn.lst gqa
        have kk4 : Kx (fun b => b = h) H (upd G qn2 (.tup [.int top, .int (dp.dep + 1), .int pt, .int m])) := kG.trans kn.to
        generalize upd G qn2 _ = G4 at *
        refine ⟨_, rfl, _, rfl, h, vs4, _, _, rfl, rfl, hvs4, ix_in yr0 (by omega), ?_⟩
        have kh : Kx (fun b => b = h) G4 (upd G4 h (.lst (vs4.set y.toNat (.ref qn2)))) := Ke.put hvs4 (fun _ z => nomatch z)
        have sG5 : Stp (upd G4 h (.lst (vs4.set y.toNat (.ref qn2)))) s1 qs adj := sG4.kx kh nsh (fun q hq z => nqh (z ▸ hq)) fun q xs e z => by rw [z, hvs4] at e; cases e
        have gw5 : (upd G4 h (.lst (vs4.set y.toNat (.ref qn2)))) w = some (.lst (ws2.map V.int)) := by rw [upd_ne nwh]; exact gw4
        have gqa5 : (upd G4 h (.lst (vs4.set y.toNat (.ref qn2)))) qa = some (.lst ra) := by rw [upd_ne (show qa ≠ h from fun z => nqh (z ▸ hqam))]; exact gqa4
        have kk5 := kk4.trans kh
        generalize upd G4 h _ = G5 at *
        have okt := (pG.ok pt dp p0 p1 hdp2)
        have hset : ∀ z, 0 ≤ z → atN (d2.set y.toNat (some ⟨top, dp.dep + 1, some (pt, m)⟩)) z = if z = y then some ⟨top, dp.dep + 1, some (pt, m)⟩ else atN d2 z := fun z z0 => atN_set yr0 (by omega) z0
        have hsk : ∀ z d, 0 ≤ z → atN d2 z = some d → atN (d2.set y.toNat (some ⟨top, dp.dep + 1, some (pt, m)⟩)) z = some d := fun z d z0 hz => by
          rw [hset z z0, if_neg (fun c => by rw [c, ey] at hz; cases hz)]
          exact hz
        obtain ⟨ex3, hP3⟩ := pG.hang (d := ⟨top, dp.dep + 1, some (pt, m)⟩) yr0 yr1 ey ⟨⟨t0, t1⟩, by
            have := okt.topd
            rw [hdt] at this
            exact hsk _ _ t0 this, (fun z => nomatch z), fun y' m' e => by
            cases e
            exact ⟨⟨p0, p1⟩, ⟨hmm, hld.symm⟩, dp, hsk _ _ p0 hdp2, hdt, rfl⟩, by have := okt.pos; show 0 ≤ dp.dep + 1; omega⟩
        have hb3 := bareN_set (d := ⟨top, dp.dep + 1, some (pt, m)⟩) (show d2[y.toNat]? = some none by rw [atN_get yr0 (by omega), ey])
        have hny : atN (d2.set y.toNat (some ⟨top, dp.dep + 1, some (pt, m)⟩)) y = some ⟨top, dp.dep + 1, some (pt, m)⟩ := by rw [hset y yr0, if_pos rfl]
        generalize d2.set y.toNat (some ⟨top, dp.dep + 1, some (pt, m)⟩) = d3 at *
        refine ⟨_, rfl, .inl ⟨rfl, _, sqL_of gw5⟩, _, rfl, w, _, _, rfl, rfl, gw5, by rw [List.length_map]; omega, ?_⟩
        have gw6 : upd G5 w (.lst (ws2.map V.int ++ [.int y])) w = some (.lst ((ws2 ++ [y]).map V.int)) := by rw [upd_same, List.map_append]; rfl
        have kw6 : Kx (fun b => b = w) G5 (upd G5 w (.lst (ws2.map V.int ++ [.int y]))) := Ke.put gw5 (fun _ z => nomatch z)
        have nwt5 : ∀ a xs, G5 a = some (.tup xs) → a ≠ w := fun a xs e z => by rw [z, gw5] at e; cases e
        refine ⟨_, _, ws2 ++ [y], d3, rfl, kk5.over nwH, gG4.kx kw6 nwh.symm nwt5, sG5.kx kw6 nws.symm (fun q hq z => nwq (z ▸ hq)) nwt5, gw6, hP3.weak (fun x _ _ z => ?_), fun x hx => ?_, exd.trans ex3, by rw [List.length_append]; show ws2.length + 1 + bareN d3 ≤ n.toNat; omega, by rw [List.length_append]; show 2 * bareN d3 + (ws2.length + 1) < _; omega, fun y' m' hy' => ?_, by rw [upd_ne (show qa ≠ w from fun z => nwq (z ▸ hqam))]; exact gqa5⟩
        · rcases z with (z | z) | z
          · exact .inl (List.mem_append_left _ z)
          · exact .inr z
          · exact .inl (by rw [z]; exact List.mem_append_right _ List.mem_cons_self)
        · rcases List.mem_append.mp hx with hx | hx
          · obtain ⟨r, d, e, t⟩ := wG x hx
            exact ⟨r, d, ex3.keep _ _ r.1 r.2 e, t⟩
          · rw [List.mem_singleton.mp hx]
            exact ⟨⟨yr0, yr1⟩, _, hny, rfl⟩
        · rw [nexttk] at hy'
          rcases List.mem_append.mp hy' with hy' | hy'
          · obtain ⟨d', e, t⟩ := hpre y' m' hy'
            obtain ⟨hmm', hld'⟩ := (hA.mem pt y' m' p0 p1).mp (List.mem_of_mem_take hy')
            obtain ⟨r0, r1⟩ := hld'.rng (hml m' hmm')
            exact ⟨d', ex3.keep _ _ r0 r1 e, t⟩
          · cases List.mem_singleton.mp hy'
            exact ⟨_, hny, hdt.symm⟩
      | some dy =>
        rw [ey] at hn3
        obtain ⟨qy, rfl, hqy⟩ := hn3
        refine iteF ?_
        refine ⟨_, _, ws2, d2, rfl, kG, gG, sG, gw, pG, wG, exd, hsz2, hms, fun y' m' hy' => ?_, gqa⟩
        rw [nexttk] at hy'
        rcases List.mem_append.mp hy' with hy' | hy'
        · exact hpre y' m' hy'
        · cases List.mem_singleton.mp hy'
          refine ⟨dy, ey, ?_⟩
          by_cases c1 : y ∈ ws2
          · obtain ⟨_, d, e, t⟩ := wG y c1
            rw [ey] at e
            cases e
            exact t.trans hdt.symm
          · by_cases c2 : y = pt
            · subst c2
              rw [hdp2] at ey
              cases ey
              rfl
            · obtain ⟨d', e, t⟩ := pG.closed y dy yr0 yr1 ey (fun z => z.elim c1 c2) pt m ((hA.mem y pt m yr0 yr1).mpr ⟨hmm, hld.symm⟩)
              rw [hdp2] at e
              cases e
              exact t.symm
    · obtain ⟨y6, y7, ws2, d2, rfl, kG, gG, sG, gw, pG, wG, exd, hsz2, hms, hpre, gqa⟩ := hG
      rw [hTa.length, List.take_length] at hpre
      refine ⟨(ws2, d2), hms, _, _, _, _, rfl, kG, gG, sG, gw, nwq, nws, pG.close (exd.keep _ _ p0 p1 hdp) hpre, wG, exG.trans exd, ?_, hsz2⟩
      intro z
      cases e : atN d1 top with
      | none => exact htp e
      | some dd =>
        have := exd.keep _ _ t0 t1 e
        rw [z] at this
        cases this
  · rintro σ G Q1 Q2 hQ ⟨x, hx, k, ht, hq⟩
    exact ⟨x, hx, k, ht, hQ _ _ hq⟩
theorem ok_hung_forest {P : Program} {w : World} {K : PySem.W.Frag} {mg : Str → Option Value} {base : Heap} {tb : List Addr} {f : Addr} {fd : FuncData} {f_hang_tree : Addr} {fd_hang_tree : FuncData} (T : Blt mg) (D_hung_forest : DefAt1 K mg "hung_forest" s_hung_forest ["web", "numbers", "root"] (.int 0) f fd) (D_hang_tree : DefAt K mg "hang_tree" s_hang_tree ["steps", "hung", "top"] f_hang_tree fd_hang_tree) (G_hang_tree : FnOk P w K mg base CX0 1 f_hang_tree fd_hang_tree ["steps", "hung", "top"] (sp_hang_tree K tb)) :
    FnOk P w K mg base CX0 2 f fd ["web", "numbers", "root"] (sp_hung_forest K tb) := by
  refine D_hung_forest.ok sc_hung_forest (fun vs H Q E h => by
    obtain ⟨v, n, ts, u, ms, root, rfl, W, hu, hok, hr0, hr1, hn1, hm, hml, q⟩ := h
    all_goals rfl) fun A outer s H vs Q E hr h => ?_
  obtain ⟨v, n, ts, u, ms, root, rfl, W, hu, hok, hr0, hr1, hn1, hm, hml, q⟩ := h
  refine ⟨_, pss_cons (ps_asg (pv 0) (tgtK (K := K) (n := 2) (pgs_cons (pg_name (i := 3) sc_hung_forest.nd rfl (.inl rfl)) (pgs_cons (pg_name (i := 4) sc_hung_forest.nd rfl (.inl rfl)) pgs_nil))))
     (pss_cons (ps_setLc (i := 6) (own := [("point", 5)]) rfl sc_hung_forest.nd rfl rfl (sw_true rfl rfl rfl (by decide +kernel)) (pi_range1 (by rfl) T.b_range (pa_cons (pv 3) pa_nil)) (blkOk_by (own := [("point", 5)]) (N := nm_hung_forest) (sc := defScope s_hung_forest) (by decide +kernel)) (fun _ _ _ _ _ => pg_name (i := 5) sc_hung_forest.nd rfl (.inl rfl)) (fun _ _ _ _ _ => pts_nil) (fun _ _ _ _ _ => pe_lst pa_nil))
     (pss_cons (ps_for PassesOwn.never rfl (pi_list (pv 1)) (pg_name (i := 7) sc_hung_forest.nd rfl (.inl rfl))
     (pss_cons (ps_asg (pe_ix (ix_tupK (K := K)) (pv 4) (pv 7) (fun _ _ => rfl)) (tgtK (K := K) (n := 2) (pgs_cons (pg_name (i := 8) sc_hung_forest.nd rfl (.inl rfl)) (pgs_cons (pg_name (i := 9) sc_hung_forest.nd rfl (.inl rfl)) pgs_nil))))
     (pss_cons (ps_expr (pe_bm PySem.F.plainAttrs_list PySem.F.slot_list_append PySem.F.type_list_append mt_append (pe_ix (ix_listK (K := K)) (pv 6) (pv 8) (fun _ _ => rfl)) (pa_cons (pe_tup (pa_cons (pv 9) (pa_cons (pv 7) pa_nil))) pa_nil)))
     (pss_one (ps_expr (pe_bm PySem.F.plainAttrs_list PySem.F.slot_list_append PySem.F.type_list_append mt_append (pe_ix (ix_listK (K := K)) (pv 6) (pv 9) (fun _ _ => rfl)) (pa_cons (pe_tup (pa_cons (pv 8) (pa_cons (pv 7) pa_nil))) pa_nil)))))))
     (pss_cons (ps_set (i := 10) sc_hung_forest.nd rfl (.inl rfl) (pe_op op_rep (pe_lst (pa_cons (pe_non) pa_nil)) (pv 3)))
     (pss_cons (ps_for PassesOwn.never rfl (pi_list (pe_op op_cat (pe_lst (pa_cons (pv 2) pa_nil)) (pe_listRg rfl (by rfl) T.b_list (prg_1 (by rfl) T.b_range (pv 3))))) (pg_name (i := 11) sc_hung_forest.nd rfl (.inl rfl))
     (pss_one (ps_if (pt_cmpR op_isN (pe_ix (ix_listK (K := K)) (pv 10) (pv 11) (fun _ _ => rfl)) (pe_non) (nomark _))
     (pss_one (ps_expr (pe_call G_hang_tree (hr.mono (by decide)) (by rfl) D_hang_tree.g D_hang_tree.F.kp D_hang_tree.b .nil pass0 (pa_cons (pv 6) (pa_cons (pv 10) (pa_cons (pv 11) pa_nil))))))
     (pss_nil))))
     (pss_one (ps_ret (pv 10))))))), ?_⟩
  have LB := line_big
  have hn0 : 0 ≤ n := by omega
  obtain ⟨t, w, rs, rfl, ht, hw, hT⟩ := W
  have hrl := hT.length
  refine ⟨_, rfl, t, _, rfl, sqT_of ht, rfl, _, _, rfl, _, [], rfl, rfl, ?_⟩
  refine ⟨_, rfl, n, rfl, by omega, by omega, fun D hD => ?_⟩
  refine lc_range (lo := 0) (n := n.toNat) (fun i G => ∃ fs : List Addr, Ke H G ∧ G D = some (.lst (fs.map V.ref)) ∧ fs.length = i ∧ fs.Nodup ∧ D ∉ fs ∧ (∀ x ∈ fs, H x = none) ∧ ∀ x ∈ fs, G x = some (.lst [])) ⟨[], Ke.new hD, upd_same, rfl, List.nodup_nil, (fun z => nomatch z), (fun _ z => nomatch z), (fun _ z => nomatch z)⟩ (fun i G hi hG => ?_) (fun G hG => ?_)
  · obtain ⟨fs, kG, gD, hl, hnd, hout, hfr, hall⟩ := hG
    refine ⟨rfl, yes_ite ?_⟩
    refine ⟨by show 0 ≤ sizeLine; decide, fun l nl => ?_⟩
    have nlD : l ≠ D := (ne_of_none gD nl).symm
    have nlf : l ∉ fs := fun z => by
      rw [hall l z] at nl
      cases nl
    refine ⟨_, lst_new nl gD, by rw [List.length_map]; omega, fs ++ [l], (kG.trans (Ke.new nl)).over hD, by rw [upd_same, List.map_append]; rfl, by rw [List.length_append, hl]; rfl, ?_, ?_, ?_, ?_⟩
    · rw [List.nodup_append]
      refine ⟨hnd, by simp, fun x hx y hy => ?_⟩
      rw [List.mem_singleton.mp hy]
      exact fun z => nlf (z ▸ hx)
    · intro z
      rcases List.mem_append.mp z with z | z
      · exact hout z
      · exact nlD (List.mem_singleton.mp z).symm
    · intro x hx
      rcases List.mem_append.mp hx with hx | hx
      · exact hfr x hx
      · rw [List.mem_singleton.mp hx]
        exact kG.dom _ nl
    · intro x hx
      rcases List.mem_append.mp hx with hx | hx
      · rw [upd_ne (show x ≠ D from fun z => hout (z ▸ hx))]
        exact lst_new nl (hall x hx)
      · rw [List.mem_singleton.mp hx, upd_ne nlD]
        exact upd_same
  · obtain ⟨fs, kG, gD, hl, hnd, hout, hfr, hall⟩ := hG
    have S0 : Stp G D fs (List.replicate n.toNat []) := ⟨gD, by rw [List.length_replicate]; exact hl, hnd, hout, fun i q hq => ⟨[], hall q (List.mem_of_getElem? hq), by
      rw [List.getD_eq_getElem?_getD, List.getElem?_replicate]
      split <;> exact .nil⟩⟩
    refine ⟨_, rfl, u, rfl, ⟨_, sqL_of (kG.lst hu)⟩, ?_⟩
    refine for_list (K := K) (a := u) (xs := ms.map V.int) (fun i σ G' => ∃ (y4 y6 y7 y8 y9 y10 : Option V) (adj : List (List (Int × Int))), σ = [some (.ref t), some (.ref u), some (.int root), some (.int n), some (.ref w), y4, some (.ref D), y6, y7, y8, y9, y10] ∧ Ke H G' ∧ Stp G' D fs adj ∧ Adj n ts (ms.take i) adj ∧ ∀ x, (stp adj x).length ≤ 2 * i) ⟨_, _, _, _, _, _, _, rfl, kG, S0, Adj.start hn0 ts, fun x => by unfold stp; rw [List.getD_eq_getElem?_getD, List.getElem?_replicate]; split <;> exact Nat.le_refl _⟩ (fun i σ G' _ hG' => ?_) (fun i x σ G' hx hG' => ?_) (fun σ G' hG' => ?_)
    · obtain ⟨_, _, _, _, _, _, _, _, k, _⟩ := hG'
      exact sqL_of (k.lst hu)
    · obtain ⟨y4, y6, y7, y8, y9, y10, adj, rfl, kG', sG', aG', hbl⟩ := hG'
      obtain ⟨m, hmi, rfl⟩ := int_at hx
      obtain ⟨m0, m1⟩ := hm m (List.mem_of_getElem? hmi)
      have hil : i < ms.length := (List.getElem?_eq_some_iff.mp hmi).1
      obtain ⟨e, he, hqe⟩ := hT.at_ m0 m1
      obtain ⟨ok1, ok2, ok3⟩ := hok _ (List.mem_of_getElem? (getD_at m0 m1))
      have adl := aG'.len
      generalize etm : ts.getD m.toNat (0, 0) = tm at *
      obtain ⟨a1, b1⟩ := tm
      dsimp only at ok1 ok2 ok3 hqe
      refine ⟨_, rfl, _, rfl, w, _, m, _, rfl, rfl, sqT_of (kG'.tup hw), he, ?_⟩
      refine ⟨e, _, rfl, sqT_of (kG'.tup hqe), rfl, _, _, rfl, _, [], rfl, rfl, ?_⟩
      obtain ⟨qa, ra, hqam, hqi, hqa, hra, hTa⟩ := sG'.at_pt ok1 (by omega)
      refine ⟨_, rfl, _, rfl, D, _, _, _, rfl, rfl, sqL_of sG'.at_, hqa, .inl ⟨rfl, _, sqL_of hra⟩, _, rfl, _, rfl, by show 2 ≤ sizeLine; decide, fun e1 ne1 => ?_⟩
      have ke1 : Ke G' (upd G' e1 (.tup [.int b1, .int m])) := Ke.new ne1
      have sG1 := sG'.ke ke1
      refine ⟨qa, _, _, rfl, rfl, ke1.lst hra, by rw [hTa.length]; have := hbl a1; omega, ?_⟩
      have sG2 := sG1.put hqi (ke1.lst hra) (upd_same (H := G') (a := e1) (o := .tup [.int b1, .int m]))
      have kG2 : Ke H (upd (upd G' e1 (.tup [.int b1, .int m])) qa (.lst (ra ++ [.ref e1]))) := (kG'.trans ke1).over (hfr _ hqam)
      have hb2 : ∀ x, (stp (adj.set a1.toNat (adj.getD a1.toNat [] ++ [(b1, m)])) x).length ≤ 2 * i + 1 := fun x => by
        unfold stp
        rw [List.getD_eq_getElem?_getD, List.getElem?_set]
        by_cases c : a1.toNat = x.toNat
        · rw [if_pos c, if_pos (by omega)]
          show (adj.getD a1.toNat [] ++ [(b1, m)]).length ≤ _
          rw [List.length_append]
          have := hbl a1
          unfold stp at this
          show _ + 1 ≤ _
          omega
        · rw [if_neg c, ← List.getD_eq_getElem?_getD]
          have := hbl x
          unfold stp at this
          omega
      generalize upd (upd G' e1 _) qa _ = G2 at *
      obtain ⟨qb, rb, hqbm, hqbi, hqb, hrb, hTb⟩ := sG2.at_pt (x := b1) (by omega) (by rw [List.length_set]; omega)
      refine ⟨_, rfl, _, rfl, D, _, _, _, rfl, rfl, sqL_of sG2.at_, hqb, .inl ⟨rfl, _, sqL_of hrb⟩, _, rfl, _, rfl, by show 2 ≤ sizeLine; decide, fun e2 ne2 => ?_⟩
      have ke2 : Ke G2 (upd G2 e2 (.tup [.int a1, .int m])) := Ke.new ne2
      have sG3 := sG2.ke ke2
      refine ⟨qb, _, _, rfl, rfl, ke2.lst hrb, by rw [hTb.length]; have := hb2 b1; omega, ?_⟩
      have sG4 := sG3.put hqbi (ke2.lst hrb) (upd_same (H := G2) (a := e2) (o := .tup [.int a1, .int m]))
      refine ⟨_, _, _, _, _, _, _, rfl, (kG2.trans ke2).over (hfr _ hqbm), sG4, ?_, fun x => ?_⟩
      · rw [take_next hmi]
        exact aG'.more etm ok1 ok2 ok3
      · unfold stp
        rw [List.getD_eq_getElem?_getD, List.getElem?_set]
        by_cases c : b1.toNat = x.toNat
        · rw [if_pos c, if_pos (by rw [List.length_set]; omega)]
          show (_ ++ [(a1, m)]).length ≤ _
          rw [List.length_append]
          have := hb2 b1
          unfold stp at this
          show _ + 1 ≤ _
          omega
        · rw [if_neg c, ← List.getD_eq_getElem?_getD]
          have := hb2 x
          unfold stp at this
          omega
    · obtain ⟨y4, y6, y7, y8, y9, y10, adj, rfl, kG', sG', aG', hbl⟩ := hG'
      rw [List.length_map, List.take_length] at aG'
      refine ⟨by show 1 ≤ sizeLine; decide, fun z nz => ?_⟩
      refine ⟨_, rfl, z, n, _, rfl, rfl, upd_same, by omega, by omega, by show 1 * n.toNat ≤ sizeLine; omega, fun h nh => ?_⟩
      rw [rep_nons]
      have kz := (Ke.new (S := fun _ => False) (o := .lst [.non]) nz).trans (Ke.new (o := .lst (List.replicate n.toNat .non)) nh)
      have kH := kG'.trans kz
      have nhH : H h = none := (kG'.trans (Ke.new nz)).dom _ nh
      have gh : (upd (upd G' z (.lst [.non])) h (.lst (List.replicate n.toNat .non))) h = some (.lst (List.replicate n.toNat .non)) := upd_same
      have sH := sG'.ke kz
      have nhD : D ≠ h := fun c => by
        have := lst_new (o := .lst [.non]) nz sG'.at_
        rw [c, nh] at this
        cases this
      have nhf : h ∉ fs := fun c => by
        obtain ⟨i, hi⟩ := List.getElem?_of_mem c
        obtain ⟨rs', e', _⟩ := sG'.each i h hi
        have := lst_new (o := .lst [.non]) nz e'
        rw [nh] at this
        cases this
      generalize upd (upd G' z _) h _ = G3 at *
      refine ⟨_, rfl, by show 1 ≤ sizeLine; decide, fun l1 nl1 => ?_⟩
      refine ⟨_, rfl, n, rfl, ⟨by omega, by omega, by omega, by omega, by omega⟩, fun l2 nl2 => ?_⟩
      refine ⟨l1, l2, _, _, rfl, rfl, lst_new nl2 upd_same, upd_same, by rw [rgV_length]; show 1 + _ ≤ sizeLine; omega, fun l3 nl3 => ?_⟩
      have k3 : Ke G3 (upd (upd (upd G3 l1 (.lst [.int root])) l2 (.lst (rgV 0 n))) l3 (.lst ([.int root] ++ rgV 0 n))) := ((Ke.new nl1).trans (Ke.new nl2)).trans (Ke.new nl3)
      have gl3 : (upd (upd (upd G3 l1 (.lst [.int root])) l2 (.lst (rgV 0 n))) l3 (.lst ([.int root] ++ rgV 0 n))) l3 = some (.lst ((root :: upTo n).map V.int)) := by rw [upd_same, rgV_up]; rfl
      have nhl : h ≠ l3 := ne_of_none (Ke.lst ((Ke.new (S := fun _ => False) nl1).trans (Ke.new nl2)) gh) nl3
      refine ⟨l3, rfl, ⟨_, sqL_of gl3⟩, ?_⟩
      have hg3 : Hg (upd (upd (upd G3 l1 (.lst [.int root])) l2 (.lst (rgV 0 n))) l3 (.lst ([.int root] ++ rgV 0 n))) h (List.replicate n.toNat none) := Hg.start (Ke.lst k3 gh)
      have sH3 := sH.ke k3
      have kH3 := kH.trans k3
      generalize upd (upd (upd G3 l1 (.lst [.int root])) l2 (.lst (rgV 0 n))) l3 (.lst ([.int root] ++ rgV 0 n)) = G5 at *
      refine for_list (K := K) (a := l3) (xs := (root :: upTo n).map V.int) (fun i σ G4 => ∃ (y4 y6 y7 y8 y10 : Option V) (ds : Nds), σ = [some (.ref t), some (.ref u), some (.int root), some (.int n), some (.ref w), y4, some (.ref D), y6, y7, y8, some (.ref h), y10] ∧ Kx (fun b => b = h) G5 G4 ∧ Hg G4 h ds ∧ Stp G4 D fs adj ∧ Part n ts ms adj ds (fun _ => False) ∧ ∀ x ∈ (root :: upTo n).take i, atN ds x ≠ none) ⟨_, _, _, _, _, _, rfl, .refl, hg3, sH3, Part.start hn0 ts ms adj, fun x hx => by simp at hx⟩ (fun i σ G4 _ hG4 => ?_) (fun i x σ G4 hx hG4 => ?_) (fun σ G4 hG4 => ?_)
      · obtain ⟨_, _, _, _, _, _, _, k, _⟩ := hG4
        exact sqL_of (k.at_ _ _ gl3 (fun _ z => nomatch z) (Ne.symm nhl))
      · obtain ⟨y4, y6, y7, y8, y10, ds, rfl, kG4, gG4, sG4, pG4, hdone⟩ := hG4
        obtain ⟨top, htop, rfl⟩ := int_at hx
        have htb : 0 ≤ top ∧ top < n := by
          rcases List.mem_cons.mp (List.mem_of_getElem? htop) with e | e
          · omega
          · exact upTo_mem.mp e
        have hall : ∀ y ∈ root :: upTo n, 0 ≤ y ∧ y < n := fun y hy => by
          rcases List.mem_cons.mp hy with e | e
          · omega
          · exact upTo_mem.mp e
        have dl := pG4.len
        obtain ⟨vs, v, hs, hat', hnv⟩ := gG4.val (K := K) (x := top) htb.1 (by omega)
        refine ⟨_, rfl, _, rfl, h, vs, _, v, rfl, rfl, hs, hat', rfl, _, rfl, ?_⟩
        cases ei : atN ds top with
        | none =>
          rw [ei] at hnv
          have hnv : v = .non := hnv
          subst hnv
          refine iteT ?_
          refine ⟨_, rfl, _, rfl, _, rfl, D, h, fs, n, ts, ms, adj, ds, _, rfl, sG4, gG4, aG', pG4, htb.1, htb.2, ei, nhD, nhf, hn1, fun m hmm x hx => ?_, fun G5 ds' k5 g5 p5 ex5 ht5 => ?_⟩
          · obtain ⟨m0, m1⟩ := hm m hmm
            rw [List.mem_singleton.mp hx]
            exact hok _ (List.mem_of_getElem? (getD_at m0 m1))
          · refine ⟨_, _, _, _, _, ds', rfl, kG4.trans k5, g5, sG4.kx k5 nhD (fun q hq c => nhf (c ▸ hq)) (fun q xs e c => ?_), p5, fun x hx => ?_⟩
            · obtain ⟨vs', e', _⟩ := gG4.ex
              rw [c, e'] at e
              cases e
            · rw [take_next htop] at hx
              rcases List.mem_append.mp hx with hx | hx
              · obtain ⟨x0, x1⟩ := hall x (List.mem_of_mem_take hx)
                intro z
                cases ex : atN ds x with
                | none => exact hdone x hx ex
                | some d =>
                  have := ex5.keep x d x0 x1 ex
                  rw [z] at this
                  cases this
              · rw [List.mem_singleton.mp hx]
                exact ht5
        | some d =>
          rw [ei] at hnv
          obtain ⟨qq, rfl, hqq⟩ := hnv
          refine iteF ⟨_, _, _, _, _, ds, rfl, kG4, gG4, sG4, pG4, fun x hx => ?_⟩
          rw [take_next htop] at hx
          rcases List.mem_append.mp hx with hx | hx
          · exact hdone x hx
          · rw [List.mem_singleton.mp hx, ei]
            exact fun z => nomatch z
      · obtain ⟨y4, y6, y7, y8, y10, ds, rfl, kG4, gG4, sG4, pG4, hdone⟩ := hG4
        rw [List.length_map, List.take_length] at hdone
        refine ⟨_, rfl, q G4 h ds (Ke.and kH3 kG4 fun x e => by rw [e]; exact nhH) nhH gG4 (pG4.hung aG' fun x x0 x1 => hdone x (List.mem_cons_of_mem _ (upTo_mem.mpr ⟨x0, x1⟩)))⟩
theorem ok_ring_between {P : Program} {w : World} {K : PySem.W.Frag} {mg : Str → Option Value} {base : Heap} {tb : List Addr} {f : Addr} {fd : FuncData} (T : Blt mg) (D_ring_between : DefAt K mg "ring_between" s_ring_between ["hung", "a", "b"] f fd) :
    FnOk P w K mg base CX0 1 f fd ["hung", "a", "b"] (sp_ring_between K tb) := by
  refine D_ring_between.ok sc_ring_between (fun vs H Q E h => by
    obtain ⟨h, ds, n, ts, ms, a, b, da, db, rfl, hG, hH, a0, a1, b0, b1, ea, eb, hn1, q1, q2⟩ := h
    all_goals rfl) fun A outer s H vs Q E hr h => ?_
  obtain ⟨h, ds, n, ts, ms, a, b, da, db, rfl, hG, hH, a0, a1, b0, b1, ea, eb, hn1, q1, q2⟩ := h
  refine ⟨_, pss_cons (ps_if (pt_cmpR op_ne (pe_ix (ix_tupK (K := K)) (pe_ix (ix_listK (K := K)) (pv 0) (pv 1) (fun _ _ => rfl)) (pe_int) (fun _ _ => rfl)) (pe_ix (ix_tupK (K := K)) (pe_ix (ix_listK (K := K)) (pv 0) (pv 2) (fun _ _ => rfl)) (pe_int) (fun _ _ => rfl)) (nomark _))
     (pss_one (ps_ret (pe_non)))
     (pss_nil))
     (pss_cons (ps_set (i := 3) sc_ring_between.nd rfl (.inl rfl) (pe_lst pa_nil))
     (pss_cons (ps_set (i := 4) sc_ring_between.nd rfl (.inl rfl) (pe_lst pa_nil))
     (pss_cons (ps_while PassesOwn.never (pt_cmpR op_ne (pv 1) (pv 2) (nomark _))
     (pss_one (ps_if (pt_cmpR op_ge (pe_ix (ix_tupK (K := K)) (pe_ix (ix_listK (K := K)) (pv 0) (pv 1) (fun _ _ => rfl)) (pe_int) (fun _ _ => rfl)) (pe_ix (ix_tupK (K := K)) (pe_ix (ix_listK (K := K)) (pv 0) (pv 2) (fun _ _ => rfl)) (pe_int) (fun _ _ => rfl)) (nomark _))
     (pss_cons (ps_expr (pe_bm PySem.F.plainAttrs_list PySem.F.slot_list_append PySem.F.type_list_append mt_append (pv 3) (pa_cons (pe_ix (ix_tupK (K := K)) (pe_ix (ix_listK (K := K)) (pv 0) (pv 1) (fun _ _ => rfl)) (pe_int) (fun _ _ => rfl)) pa_nil)))
     (pss_one (ps_set (i := 1) sc_ring_between.nd rfl (.inl rfl) (pe_ix (ix_tupK (K := K)) (pe_ix (ix_listK (K := K)) (pv 0) (pv 1) (fun _ _ => rfl)) (pe_int) (fun _ _ => rfl)))))
     (pss_cons (ps_expr (pe_bm PySem.F.plainAttrs_list PySem.F.slot_list_append PySem.F.type_list_append mt_append (pv 4) (pa_cons (pe_ix (ix_tupK (K := K)) (pe_ix (ix_listK (K := K)) (pv 0) (pv 2) (fun _ _ => rfl)) (pe_int) (fun _ _ => rfl)) pa_nil)))
     (pss_one (ps_set (i := 2) sc_ring_between.nd rfl (.inl rfl) (pe_ix (ix_tupK (K := K)) (pe_ix (ix_listK (K := K)) (pv 0) (pv 2) (fun _ _ => rfl)) (pe_int) (fun _ _ => rfl))))))))
     (pss_one (ps_ret (pe_callTy (tupleK (K := K)) (by rfl) T.b_tuple (by decide +kernel) (pa_cons (pe_op op_cat (pv 3) ((pe_revLK (K := K)) (pv 4))) pa_nil))))))), ?_⟩
  have LB := line_big
  have hl := hH.len
  obtain ⟨vs1, v1, hs1, ha1, hv1⟩ := hG.val (K := K) a0 (by omega)
  rw [ea] at hv1
  obtain ⟨qa, rfl, hqa⟩ := hv1
  obtain ⟨vs2, v2, hs2, ha2, hv2⟩ := hG.val (K := K) b0 (by omega)
  rw [eb] at hv2
  obtain ⟨qb, rfl, hqb⟩ := hv2
  refine ⟨_, rfl, _, rfl, h, vs1, _, _, rfl, rfl, hs1, ha1, qa, _, 0, _, rfl, rfl, sqT_of hqa, atI_nat (j := 0) da.vals0, ?_⟩
  refine ⟨_, rfl, _, rfl, h, vs2, _, _, rfl, rfl, hs2, ha2, qb, _, 0, _, rfl, rfl, sqT_of hqb, atI_nat (j := 0) db.vals0, rfl, _, rfl, iteB (fun hb => ?_) (fun hb => ?_)⟩
  · have hb : (!decide (V.int da.top = V.int db.top)) = true := hb
    exact q1 fun z => by
      rw [z, decide_eq_true rfl] at hb
      cases hb
  have htp : da.top = db.top := by
    have hb : (!decide (V.int da.top = V.int db.top)) = false := hb
    by_cases z : da.top = db.top
    · exact z
    · rw [decide_eq_false fun c => z (V.int.inj c)] at hb
      cases hb
  refine ⟨by show 0 ≤ sizeLine; decide, fun l1 nl1 => ?_⟩
  refine ⟨by show 0 ≤ sizeLine; decide, fun l2 nl2 => ?_⟩
  obtain ⟨nl21, nl20⟩ := upd_none nl2
  have k0 : Ke H (upd (upd H l1 (.lst [])) l2 (.lst [])) := (Ke.new nl1).trans (Ke.new nl2)
  have gl1 : (upd (upd H l1 (.lst [])) l2 (.lst [])) l1 = some (.lst []) := lst_new nl2 upd_same
  have gl2 : (upd (upd H l1 (.lst [])) l2 (.lst [])) l2 = some (.lst []) := upd_same
  generalize upd (upd H l1 _) l2 _ = G0 at *
  have c0 : Climb n ts ds a b [] [] a b := ⟨⟨a0, a1⟩, ⟨b0, b1⟩, .nil a, .nil b, (fun _ z => nomatch z), (fun _ z => nomatch z), List.nodup_nil, fun d1 d2 e1 e2 => by
    rw [ea] at e1
    rw [eb] at e2
    cases e1
    cases e2
    exact htp⟩
  refine while_gh (α := (List Int × List Int) × (Int × Int)) (fun g σ G => σ = [some (.ref h), some (.int g.2.1), some (.int g.2.2), some (.ref l1), some (.ref l2)] ∧ Ke H G ∧ G l1 = some (.lst ((g.1.1.map (tieN ds)).map V.int)) ∧ G l2 = some (.lst ((g.1.2.map (tieN ds)).map V.int)) ∧ Climb n ts ds a b g.1.1 g.1.2 g.2.1 g.2.2) (fun g => (depN ds g.2.1 + depN ds g.2.2).toNat) (([], []), (a, b)) ⟨rfl, k0, gl1, gl2, c0⟩ (fun g σ G hW => ?_) ?_
  · obtain ⟨⟨xs, ys⟩, ⟨a', b'⟩⟩ := g
    obtain ⟨rfl, kG, g1, g2, c⟩ := hW
    dsimp only at g1 g2 c ⊢
    have hln := c.len
    obtain ⟨ra0, ra1⟩ := c.ra
    obtain ⟨rb0, rb1⟩ := c.rb
    refine ⟨_, rfl, _, rfl, rfl, _, rfl, iteB (fun hb => ?_) (fun hb => ?_)⟩
    · have hne : a' ≠ b' := fun z => by
        have hb : (!decide (V.int a' = V.int b')) = true := hb
        rw [z, decide_eq_true rfl] at hb
        cases hb
      have gG := hG.ke kG
      obtain ⟨da', ea', _⟩ := hH.all a' ra0 ra1
      obtain ⟨db', eb', _⟩ := hH.all b' rb0 rb1
      obtain ⟨vs3, v3, hs3, ha3, hv3⟩ := gG.val (K := K) ra0 (by omega)
      rw [ea'] at hv3
      obtain ⟨qa', rfl, hqa'⟩ := hv3
      obtain ⟨vs4, v4, hs4, ha4, hv4⟩ := gG.val (K := K) rb0 (by omega)
      rw [eb'] at hv4
      obtain ⟨qb', rfl, hqb'⟩ := hv4
      have pa := hH.dep_pos ra0 ra1
      have pb := hH.dep_pos rb0 rb1
      refine ⟨_, rfl, _, rfl, h, vs3, _, _, rfl, rfl, hs3, ha3, qa', _, 1, _, rfl, rfl, sqT_of hqa', atI_nat (j := 1) da'.vals1, ?_⟩
      refine ⟨_, rfl, _, rfl, h, vs4, _, _, rfl, rfl, hs4, ha4, qb', _, 1, _, rfl, rfl, sqT_of hqb', atI_nat (j := 1) db'.vals1, _, _, rfl, rfl, _, rfl, iteB (fun hd => ?_) (fun hd => ?_)⟩
      · have hd : db'.dep ≤ da'.dep := of_decide_eq_true hd
        obtain ⟨y, m, eu, hm, edy, c2⟩ := c.upA hH hne (by rw [depN_of ea', depN_of eb']; exact hd) ea'
        have etm := tieN_of ea' eu
        refine ⟨_, rfl, .inl ⟨rfl, _, sqL_of g1⟩, ?_⟩
        refine ⟨_, rfl, _, rfl, h, vs3, _, _, rfl, rfl, hs3, ha3, qa', _, 3, _, rfl, rfl, sqT_of hqa', atI_nat (j := 3) (Nd.vals3 eu), l1, _, _, rfl, rfl, g1, by rw [List.length_map, List.length_map]; omega, ?_⟩
        have k2 : Ke H (upd G l1 (.lst ((xs.map (tieN ds)).map V.int ++ [.int m]))) := kG.over nl1
        have g12 : (upd G l1 (.lst ((xs.map (tieN ds)).map V.int ++ [.int m]))) l1 = some (.lst (((xs ++ [a']).map (tieN ds)).map V.int)) := by
          rw [upd_same, List.map_append, List.map_append]
          show _ = some (HO.lst (_ ++ [V.int (tieN ds a')]))
          rw [etm]
        have g22 : (upd G l1 (.lst ((xs.map (tieN ds)).map V.int ++ [.int m]))) l2 = some (.lst ((ys.map (tieN ds)).map V.int)) := by rw [upd_ne nl21]; exact g2
        generalize upd G l1 _ = G2 at *
        obtain ⟨vs5, v5, hs5, ha5, hv5⟩ := (hG.ke k2).val (K := K) ra0 (by omega)
        rw [ea'] at hv5
        obtain ⟨qa5, rfl, hqa5⟩ := hv5
        refine ⟨_, rfl, _, rfl, h, vs5, _, _, rfl, rfl, hs5, ha5, qa5, _, 2, _, rfl, rfl, sqT_of hqa5, atI_nat (j := 2) (Nd.vals2 eu), ?_⟩
        refine ⟨((xs ++ [a'], ys), (y, b')), ?_, rfl, k2, g12, g22, c2⟩
        have := hH.dep_pos c2.ra.1 c2.ra.2
        dsimp only
        omega
      · have hd : ¬ db'.dep ≤ da'.dep := of_decide_eq_false hd
        obtain ⟨y, m, eu, hm, edy, c2⟩ := c.upB hH (by rw [depN_of ea', depN_of eb']; omega) eb'
        have etm := tieN_of eb' eu
        refine ⟨_, rfl, .inl ⟨rfl, _, sqL_of g2⟩, ?_⟩
        refine ⟨_, rfl, _, rfl, h, vs4, _, _, rfl, rfl, hs4, ha4, qb', _, 3, _, rfl, rfl, sqT_of hqb', atI_nat (j := 3) (Nd.vals3 eu), l2, _, _, rfl, rfl, g2, by rw [List.length_map, List.length_map]; omega, ?_⟩
        have k2 : Ke H (upd G l2 (.lst ((ys.map (tieN ds)).map V.int ++ [.int m]))) := kG.over nl20
        have g22 : (upd G l2 (.lst ((ys.map (tieN ds)).map V.int ++ [.int m]))) l2 = some (.lst (((ys ++ [b']).map (tieN ds)).map V.int)) := by
          rw [upd_same, List.map_append, List.map_append]
          show _ = some (HO.lst (_ ++ [V.int (tieN ds b')]))
          rw [etm]
        have g12 : (upd G l2 (.lst ((ys.map (tieN ds)).map V.int ++ [.int m]))) l1 = some (.lst ((xs.map (tieN ds)).map V.int)) := by rw [upd_ne nl21.symm]; exact g1
        generalize upd G l2 _ = G2 at *
        obtain ⟨vs5, v5, hs5, ha5, hv5⟩ := (hG.ke k2).val (K := K) rb0 (by omega)
        rw [eb'] at hv5
        obtain ⟨qb5, rfl, hqb5⟩ := hv5
        refine ⟨_, rfl, _, rfl, h, vs5, _, _, rfl, rfl, hs5, ha5, qb5, _, 2, _, rfl, rfl, sqT_of hqb5, atI_nat (j := 2) (Nd.vals2 eu), ?_⟩
        refine ⟨((xs, ys ++ [b']), (a', y)), ?_, rfl, k2, g12, g22, c2⟩
        have := hH.dep_pos c2.rb.1 c2.rb.2
        dsimp only
        omega
    · have he : a' = b' := by
        have hb : (!decide (V.int a' = V.int b')) = false := hb
        by_cases z : a' = b'
        · exact z
        · rw [decide_eq_false fun c => z (V.int.inj c)] at hb
          cases hb
      subst he
      have hR := c.ring hH
      refine ⟨_, rfl, _, rfl, l2, _, rfl, sqL_of g2, fun p1 np1 => ?_⟩
      refine ⟨l1, p1, _, _, rfl, rfl, lst_new np1 g1, upd_same, by rw [List.length_reverse, List.length_map, List.length_map, List.length_map, List.length_map]; omega, fun o no => ?_⟩
      refine ⟨o, _, rfl, .inl ⟨sqL_of upd_same, fun u nu => ?_⟩⟩
      have kE := ((kG.trans (Ke.new (o := .lst ((ys.map (tieN ds)).map V.int).reverse) np1)).trans (Ke.new (o := .lst ((xs.map (tieN ds)).map V.int ++ ((ys.map (tieN ds)).map V.int).reverse)) no))
      refine q2 htp _ u _ (kE.trans (Ke.new nu)) (kE.dom _ nu) ?_ hR
      rw [upd_same, List.map_append, List.map_reverse]
  · rintro σ G Q1 Q2 hQ ⟨x, hx, y, hy, hsc, k, hk, hq⟩
    exact ⟨x, hx, y, hy, hsc, k, hk, hQ _ _ hq⟩
theorem ok_newly_reached {P : Program} {w : World} {K : PySem.W.Frag} {mg : Str → Option Value} {base : Heap} {tb : List Addr} {f : Addr} {fd : FuncData} (T : Blt mg) (D_newly_reached : DefAt K mg "newly_reached" s_newly_reached ["pushers", "ring", "push"] f fd) :
    FnOk P w K mg base CX0 1 f fd ["pushers", "ring", "push"] (sp_newly_reached K tb) := by
  refine D_newly_reached.ok sc_newly_reached (fun vs H Q E h => by
    obtain ⟨d, c, q0, pl, ns, rfl, hd, hnd, hc, hns, hlen, q⟩ := h
    all_goals rfl) fun A outer s H vs Q E hr h => ?_
  obtain ⟨d, c, q0, pl, ns, rfl, hd, hnd, hc, hns, hlen, q⟩ := h
  refine ⟨_, pss_cons (ps_setLc (i := 4) (own := [("pushed", 3)]) rfl sc_newly_reached.nd rfl rfl (sw_true rfl rfl rfl (by decide +kernel)) (pi_tup (pv 1)) (blkOk_by (own := [("pushed", 3)]) (N := nm_newly_reached) (sc := defScope s_newly_reached) (by decide +kernel)) (fun _ _ _ _ _ => pg_name (i := 3) sc_newly_reached.nd rfl (.inl rfl)) (fun _ _ _ _ _ => pts_one (pt_cmp (pc_dnotin (hu_of hr) (pv 3) (pv 0)) (by rfl))) (fun _ _ _ _ _ => pv 3))
     (pss_cons (ps_for PassesOwn.never rfl (pi_list (pv 4)) (pg_name (i := 3) sc_newly_reached.nd rfl (.inl rfl))
     (pss_one (ps_dput (hu_of hr) (pv 0) (pv 3) (pv 2) (by rfl))))
     (pss_one (ps_ret (pv 4)))), ?_⟩
  have LB := line_big
  refine ⟨_, rfl, c, rfl, ⟨_, sqT_of hc⟩, fun D hD => ?_⟩
  refine lc_tup (K := K) (a := c) (xs := ns.map V.int) (fun i G => Ke H G ∧ G D = some (.lst (((ns.take i).filter fun x => !decide (x ∈ pl.map Prod.fst)).map V.int))) ⟨Ke.new hD, upd_same⟩ (fun i G _ hG => sqT_of (hG.1.tup hc)) (fun i x G hx hG => ?_) (fun G hG => ?_)
  · obtain ⟨kG, gD⟩ := hG
    obtain ⟨y, hy, rfl⟩ := int_at hx
    have gd : G d = some (.dK (kvV pl)) := kG.at_ _ _ hd (fun _ z => nomatch z) fun z => z
    have hfl : ((ns.take i).filter fun x => !decide (x ∈ pl.map Prod.fst)).length ≤ ns.length := Nat.le_trans (List.length_filter_le _ _) (List.length_take_le' _ _)
    have en : (ns.take (i + 1)).filter (fun x => !decide (x ∈ pl.map Prod.fst)) = (ns.take i).filter (fun x => !decide (x ∈ pl.map Prod.fst)) ++ if (!decide (y ∈ pl.map Prod.fst)) = true then [y] else [] := by
      rw [take_next hy, List.filter_append, List.filter_cons, List.filter_nil]
    refine ⟨rfl, _, rfl, _, rfl, d, _, rfl, DGet.k (k := Sum.inl y) gd, _, rfl, ?_⟩
    by_cases hin : y ∈ pl.map Prod.fst
    · obtain ⟨⟨y', v⟩, hp, ey⟩ := List.mem_map.mp hin
      have ey : y' = y := ey
      subst ey
      rw [kvV_in hnd hp]
      refine iteF ⟨kG, ?_⟩
      rw [en, decide_eq_true hin, gD]
      simp
    · rw [kvV_out hin]
      refine iteT ?_
      refine ⟨_, rfl, _, gD, by rw [List.length_map]; omega, kG.over hD, ?_⟩
      rw [upd_same, en, decide_eq_false hin, List.map_append]
      rfl
  · obtain ⟨kG, gD⟩ := hG
    rw [List.length_map, List.take_length] at gD
    have gd : G d = some (.dK (kvV pl)) := kG.at_ _ _ hd (fun _ z => nomatch z) fun z => z
    have nDd : D ≠ d := fun z => by rw [z, hd] at hD; cases hD
    obtain ⟨new, enew⟩ : ∃ new, new = ns.filter fun x => !decide (x ∈ pl.map Prod.fst) := ⟨_, rfl⟩
    have hnw : ∀ x ∈ new, x ∉ pl.map Prod.fst := fun x hx => by
      rw [enew] at hx
      have := (List.mem_filter.mp hx).2
      simpa using this
    have hnn : new.Nodup := by rw [enew]; exact hns.filter _
    have hnl : new.length ≤ ns.length := by rw [enew]; exact List.length_filter_le _ _
    rw [← enew] at gD q
    refine ⟨_, rfl, D, rfl, ⟨_, sqL_of gD⟩, ?_⟩
    refine for_list (K := K) (a := D) (xs := new.map V.int) (fun j σ G1 => ∃ (y3 : Option V), σ = [some (.ref d), some (.ref c), some (.ref q0), y3, some (.ref D)] ∧ Kx (fun b => b = d) G G1 ∧ G1 d = some (.dK (kvV (pl ++ (new.take j).map fun x => (x, V.ref q0)))) ∧ G1 D = some (.lst (new.map V.int))) ⟨_, rfl, .refl, by rw [List.take_zero, List.map_nil, List.append_nil]; exact gd, gD⟩ (fun j σ G1 _ hG => ?_) (fun j x σ G1 hx hG => ?_) (fun σ G1 hG => ?_)
    · obtain ⟨_, _, _, _, g⟩ := hG
      exact sqL_of g
    · obtain ⟨y3, rfl, k1, gd1, gD1⟩ := hG
      obtain ⟨y, hy, rfl⟩ := int_at hx
      have jl : j < new.length := (List.getElem?_eq_some_iff.mp hy).1
      have hml : ((new.take j).map fun x => (x, V.ref q0)).length ≤ new.length := by rw [List.length_map]; exact List.length_take_le' _ _
      have hout : y ∉ (pl ++ (new.take j).map fun x => (x, V.ref q0)).map Prod.fst := fun z => by
        rw [List.map_append, List.map_map] at z
        rcases List.mem_append.mp z with z | z
        · exact hnw y (List.mem_of_getElem? hy) z
        · obtain ⟨y2, h2, e2⟩ := List.mem_map.mp z
          have e2 : y2 = y := e2
          subst e2
          obtain ⟨b, hb⟩ := List.getElem?_of_mem h2
          have bl := (List.getElem?_eq_some_iff.mp hb).1
          rw [List.length_take] at bl
          rw [List.getElem?_take, if_pos (by omega)] at hb
          obtain ⟨lb, eb⟩ := List.getElem?_eq_some_iff.mp hb
          obtain ⟨lj, ej⟩ := List.getElem?_eq_some_iff.mp hy
          have := (List.getElem_inj hnn).mp (eb.trans ej.symm)
          omega
      refine ⟨_, rfl, _, rfl, _, rfl, d, _, rfl, DPut.k (k := Sum.inl y) gd1 (by rw [kvV_length, List.length_append]; omega), ?_⟩
      rw [kvV_put hout]
      refine ⟨_, rfl, k1.trans (Ke.put gd1 fun _ z => nomatch z), ?_, by rw [upd_ne nDd]; exact gD1⟩
      rw [upd_same, take_next hy, List.map_append, List.append_assoc]
      rfl
    · obtain ⟨y3, rfl, k1, gd1, gD1⟩ := hG
      rw [List.length_map, List.take_length] at gd1
      exact ⟨_, rfl, q _ D (Kx.trans (Ke.to kG) k1) hD gD1 gd1⟩
theorem ok_first_free {P : Program} {w : World} {K : PySem.W.Frag} {mg : Str → Option Value} {base : Heap} {tb : List Addr} {f : Addr} {fd : FuncData} {f_ties_by_forest : Addr} {fd_ties_by_forest : FuncData} {f_hung_forest : Addr} {fd_hung_forest : FuncData} {f_ring_between : Addr} {fd_ring_between : FuncData} {f_newly_reached : Addr} {fd_newly_reached : FuncData} (T : Blt mg) (D_first_free : DefAt K mg "first_free" s_first_free ["web", "k", "laying", "pushers"] f fd) (D_ties_by_forest : DefAt K mg "ties_by_forest" s_ties_by_forest ["laying"] f_ties_by_forest fd_ties_by_forest) (G_ties_by_forest : FnOk P w K mg base CX0 1 f_ties_by_forest fd_ties_by_forest ["laying"] (sp_ties_by_forest K tb)) (D_hung_forest : DefAt1 K mg "hung_forest" s_hung_forest ["web", "numbers", "root"] (.int 0) f_hung_forest fd_hung_forest) (G_hung_forest : FnOk P w K mg base CX0 2 f_hung_forest fd_hung_forest ["web", "numbers", "root"] (sp_hung_forest K tb)) (D_ring_between : DefAt K mg "ring_between" s_ring_between ["hung", "a", "b"] f_ring_between fd_ring_between) (G_ring_between : FnOk P w K mg base CX0 1 f_ring_between fd_ring_between ["hung", "a", "b"] (sp_ring_between K tb)) (D_newly_reached : DefAt K mg "newly_reached" s_newly_reached ["pushers", "ring", "push"] f_newly_reached fd_newly_reached) (G_newly_reached : FnOk P w K mg base CX0 1 f_newly_reached fd_newly_reached ["pushers", "ring", "push"] (sp_newly_reached K tb)) :
    FnOk P w K mg base CX0 3 f fd ["web", "k", "laying", "pushers"] (sp_first_free K tb) := by
  refine D_first_free.ok sc_first_free (fun vs H Q E h => by
    obtain ⟨v, n, ts, k, u, ws, tie, d, rfl, W, hu, hL, hok, hn0, hn1, hlen, hk0, hk1, htl, hd, q1, q2⟩ := h
    all_goals rfl) fun A outer s H vs Q E hr h => ?_
  obtain ⟨v, n, ts, k, u, ws, tie, d, rfl, W, hu, hL, hok, hn0, hn1, hlen, hk0, hk1, htl, hd, q1, q2⟩ := h
  refine ⟨_, pss_cons (ps_set (i := 4) sc_first_free.nd rfl (.inl rfl) (pe_call G_ties_by_forest (hr.mono (by decide)) (by rfl) D_ties_by_forest.g D_ties_by_forest.F.kp D_ties_by_forest.b .nil pass0 (pa_cons (pv 2) pa_nil)))
     (pss_cons (ps_set (i := 5) sc_first_free.nd rfl (.inl rfl) (pe_dnewK))
     (pss_cons (ps_set (i := 6) sc_first_free.nd rfl (.inl rfl) (pe_callTy (call_list_dK rfl) (by rfl) T.b_list (by decide +kernel) (pa_cons (pv 3) pa_nil)))
     (pss_cons (ps_set (i := 7) sc_first_free.nd rfl (.inl rfl) (pe_int))
     (pss_cons (ps_while PassesOwn.never (pt_cmpR op_lt (pv 7) (pe_callB (lenK (K := K)) (by rfl) T.b_len PySem.boot_len (pa_cons (pv 6) pa_nil)) (nomark _))
     (pss_cons (ps_set (i := 8) sc_first_free.nd rfl (.inl rfl) (pe_ix (ix_listK (K := K)) (pv 6) (pv 7) (fun _ _ => rfl)))
     (pss_cons (ps_aug (i := 7) sc_first_free.nd rfl (.inl rfl) (pe_int) ip_add)
     (pss_cons (ps_asg (pe_ix (ix_tupK (K := K)) (pe_ix (ix_tupK (K := K)) (pv 0) (pe_int) (fun _ _ => rfl)) (pv 8) (fun _ _ => rfl)) (tgtK (K := K) (n := 2) (pgs_cons (pg_name (i := 9) sc_first_free.nd rfl (.inl rfl)) (pgs_cons (pg_name (i := 10) sc_first_free.nd rfl (.inl rfl)) pgs_nil))))
     (pss_one (ps_for PassesOwn.never rfl (pi_range1 (by rfl) T.b_range (pa_cons (pv 1) pa_nil)) (pg_name (i := 11) sc_first_free.nd rfl (.inl rfl))
     (pss_cons (ps_if (pt_cmpR op_eq (pe_ix (ix_tupK (K := K)) (pv 2) (pv 8) (fun _ _ => rfl)) (pv 11) (nomark _))
     (pss_one (ps_continue))
     (pss_nil))
     (C8.pss_cut (ps_if (pt_cmp (pc_dnotin (hu_of hr) (pv 11) (pv 5)) (by rfl))
     (pss_one (ps_dput (hu_of hr) (pv 5) (pv 11) (pe_call G_hung_forest (hr.mono (by decide)) (by rfl) D_hung_forest.g D_hung_forest.F.kp D_hung_forest.b1.choose_spec.2 D_hung_forest.b1.choose_spec.1 pass0 (pa_cons (pv 0) (pa_cons (pe_dget2 (hu_of hr) (pv 4) (pv 11) (pe_lst pa_nil) ⟨rfl, rfl, rfl, rfl⟩) pa_nil))) (by rfl)))
     (pss_nil))
     (pss_cons (ps_set (i := 12) sc_first_free.nd rfl (.inl rfl) (pe_call G_ring_between (hr.mono (by decide)) (by rfl) D_ring_between.g D_ring_between.F.kp D_ring_between.b .nil pass0 (pa_cons (pe_dget (hu_of hr) (pv 5) (pv 11) (fun _ _ => rfl)) (pa_cons (pv 9) (pa_cons (pv 10) pa_nil)))))
     (pss_cons (ps_if (pt_cmpR op_isN (pv 12) (pe_non) (nomark _))
     (pss_one (ps_ret (pe_tup (pa_cons (pv 8) (pa_cons (pv 11) pa_nil)))))
     (pss_nil))
     (pss_one (ps_expr (pe_bm PySem.F.plainAttrs_list PySem.F.slot_list_extend PySem.F.type_list_extend mt_extend (pv 6) (pa_cons (pe_call G_newly_reached (hr.mono (by decide)) (by rfl) D_newly_reached.g D_newly_reached.F.kp D_newly_reached.b .nil pass0 (pa_cons (pv 3) (pa_cons (pv 12) (pa_cons (pe_tup (pa_cons (pv 8) (pa_cons (pv 11) pa_nil))) pa_nil)))) pa_nil))))))))))))))
     (pss_one (ps_ret (pe_non))))))), ?_⟩
  have LB := line_big
  obtain ⟨tw, wu, rs, rfl, htw, hwu, hT⟩ := id W
  have hrl := hT.length
  have hlw := hL.len
  refine ⟨_, rfl, u, ws, rfl, hu, hL.isO, by omega, fun H1 nb bl k1 nnb gnb hBy => ?_⟩
  have gd1 : H1 d = some (.dK (kvV [((tie : Int), .non)])) := k1.at_ _ _ hd (fun _ z => nomatch z) fun z => z
  refine fun hg nhg => ?_
  have k2 : Ke H (upd H1 hg (.dK [])) := k1.trans (Ke.new nhg)
  have nhgH := k1.dom _ nhg
  have nnh : nb ≠ hg := fun z => by rw [← z, gnb] at nhg; cases nhg
  have gd2 : (upd H1 hg (.dK [])) d = some (.dK (kvV [((tie : Int), .non)])) := by rw [upd_ne (ne_of_none gd1 nhg)]; exact gd1
  have gn2 : (upd H1 hg (.dK [])) nb = some (.dK (kvF bl)) := by rw [upd_ne nnh]; exact gnb
  have gh2 : (upd H1 hg (.dK [])) hg = some (.dK (kvF [])) := upd_same
  have by2 := hBy.ke (Ke.new (S := fun _ => False) (o := .dK []) nhg)
  generalize upd H1 hg _ = H2 at *
  refine ⟨_, rfl, d, _, rfl, gd2, fun wt nwt => ?_⟩
  have k3 : Ke H (upd H2 wt (.lst ((kvV [((tie : Int), V.non)]).map fun kv => kV kv.1))) := k2.trans (Ke.new nwt)
  have nwtH := k2.dom _ nwt
  have gw3 : (upd H2 wt (.lst ((kvV [((tie : Int), V.non)]).map fun kv => kV kv.1))) wt = some (.lst (([((tie : Int), (none : Option (Int × Int)))].map Prod.fst).map V.int)) := upd_same
  have gd3 : (upd H2 wt (.lst ((kvV [((tie : Int), V.non)]).map fun kv => kV kv.1))) d = some (.dK (kvV [((tie : Int), .non)])) := by rw [upd_ne (ne_of_none gd2 nwt)]; exact gd2
  have gn3 : (upd H2 wt (.lst ((kvV [((tie : Int), V.non)]).map fun kv => kV kv.1))) nb = some (.dK (kvF bl)) := by rw [upd_ne (ne_of_none gn2 nwt)]; exact gn2
  have gh3 : (upd H2 wt (.lst ((kvV [((tie : Int), V.non)]).map fun kv => kV kv.1))) hg = some (.dK (kvF [])) := by rw [upd_ne (ne_of_none gh2 nwt)]; exact gh2
  have by3 := by2.ke (Ke.new (S := fun _ => False) (o := .lst ((kvV [((tie : Int), V.non)]).map fun kv => kV kv.1)) nwt)
  have wo : wt ∉ bl.map Prod.snd := fun z => by
    obtain ⟨p, hp, e⟩ := List.mem_map.mp z
    have := by2.each p hp
    rw [e, nwt] at this
    cases this
  generalize upd H2 wt _ = H3 at *
  have F0 : FfS H n ts ws k tie d nb hg wt bl H3 [((tie : Int), .non)] [((tie : Int), none)] (fun _ => 0) 0 [] := ⟨Ke.to k3, gd3, .cons ⟨rfl, rfl⟩ .nil, Bfs.start htl, gn3, by3, wo, gh3, List.nodup_nil, (fun _ z => nomatch z), (fun _ z => nomatch z), gw3⟩
  refine while_gh (α := List (Int × V) × List (Int × Option (Int × Int)) × (Nat → Nat) × Nat × List (Int × Addr)) (fun α σ G => ∃ (y8 y9 y10 y11 y12 : Option V), σ = [some (.ref tw), some (.int k), some (.ref u), some (.ref d), some (.ref nb), some (.ref hg), some (.ref wt), some (.int (α.2.2.2.1 : Int)), y8, y9, y10, y11, y12] ∧ FfS H n ts ws k tie d nb hg wt bl G α.1 α.2.1 α.2.2.1 α.2.2.2.1 α.2.2.2.2 ∧ α.2.2.2.1 ≤ α.2.1.length ∧ α.2.1 = outF ts ws k tie α.2.2.2.1 ∧ ∀ a' f', a' < α.2.2.2.1 → ¬ Stp_ ts ws k tie a' f') (fun α => ts.length - α.2.2.2.1) ([((tie : Int), .non)], [((tie : Int), none)], (fun _ => 0), 0, []) ?_ (fun α σ G hW => ?_) ?_
  · exact ⟨_, _, _, _, _, rfl, F0, Nat.zero_le _, rfl, fun a' f' z => absurd z (Nat.not_lt_zero _)⟩
  · obtain ⟨pl, fl, lv, a, gl⟩ := α
    obtain ⟨y8, y9, y10, y11, y12, rfl, hF, hal, hout, hahead⟩ := hW
    dsimp only at hF hal hout hahead ⊢
    have hfl := hF.flen
    refine ⟨_, rfl, _, rfl, wt, _, rfl, .inl (sqL_of hF.gw), _, _, rfl, rfl, _, rfl, iteB (fun hb => ?_) (fun hb => ?_)⟩
    · have hb : (a : Int) < (((fl.map Prod.fst).map V.int).length : Int) := of_decide_eq_true hb
      rw [List.length_map, List.length_map] at hb
      have al : a < fl.length := by omega
      obtain ⟨s, o, hfa⟩ : ∃ s o, fl[a]? = some (s, o) := ⟨fl[a].1, fl[a].2, List.getElem?_eq_getElem al⟩
      obtain ⟨s0, s1⟩ := hF.bf.rng s (hF.bf.key hfa)
      obtain ⟨sn, rfl⟩ : ∃ sn : Nat, s = sn := ⟨s.toNat, by omega⟩
      have snl : sn < ts.length := by omega
      have hfa0 : (outF ts ws k tie a)[a]? = some ((sn : Int), o) := by rw [← hout]; exact hfa
      obtain ⟨o0, eo0⟩ : ∃ o0, o0 = o := ⟨_, rfl⟩
      rw [← eo0] at hfa0
      have hwa : atI ((fl.map Prod.fst).map V.int) (a : Int) = some (.int (sn : Int)) := atI_nat (by rw [List.getElem?_map, List.getElem?_map, hfa]; rfl)
      refine ⟨_, rfl, _, rfl, wt, _, _, _, rfl, rfl, sqL_of hF.gw, hwa, ?_⟩
      refine ⟨_, rfl, _, _, rfl, rfl, ?_⟩
      obtain ⟨e, he, hqe⟩ := hT.at_ (m := (sn : Int)) (by omega) (by omega)
      have hte : ts.getD ((sn : Int)).toNat (0, 0) = tk ts (sn : Int) := rfl
      obtain ⟨ok1, ok2, ok3⟩ := hok _ (List.mem_of_getElem? (getD_at (ts := ts) (m := (sn : Int)) (by omega) (by omega)))
      rw [hte] at hqe ok1 ok2 ok3
      have hdo : ∃ o, H d = some o := ⟨_, hd⟩
      have tkH : ∀ {G : Hp}, Kx (fun b => b = d) H G → ∀ q xs, H q = some (.tup xs) → G q = some (.tup xs) := fun kG q xs z => kG.tup z (ne_of z hd (fun y => nomatch y))
      have hws := List.getElem?_eq_getElem (l := ws) (i := sn) (by omega)
      have hIs := hL.isO _ (List.getElem_mem (l := ws) (n := sn) (by omega))
      refine ⟨_, rfl, tw, _, 1, _, rfl, rfl, sqT_of (tkH hF.ke _ _ htw), atI_nat (j := 1) rfl, _, rfl, wu, _, _, _, rfl, rfl, sqT_of (tkH hF.ke _ _ hwu), he, ?_⟩
      refine ⟨e, _, rfl, sqT_of (tkH hF.ke _ _ hqe), rfl, _, _, rfl, _, [], rfl, rfl, ?_⟩
      refine ⟨_, rfl, k, rfl, by omega, by omega, ?_⟩
      refine for_range (lo := 0) (n := k.toNat) (fun j σ G => ∃ (y11 y12 : Option V) (pl : List (Int × V)) (fl : List (Int × Option (Int × Int))) (lv : Nat → Nat) (gl : List (Int × Addr)) (o : Option (Int × Int)), σ = [some (.ref tw), some (.int k), some (.ref u), some (.ref d), some (.ref nb), some (.ref hg), some (.ref wt), some (.int ((a : Int) + 1)), some (.int (sn : Int)), some (.int (tk ts (sn : Int)).1), some (.int (tk ts (sn : Int)).2), y11, y12] ∧ FfS H n ts ws k tie d nb hg wt bl G pl fl lv a gl ∧ fl[a]? = some ((sn : Int), o) ∧ (∀ f, 0 ≤ f → f < (j : Int) → ws[sn]? ≠ some (.int f) → joinB ts ws ((sn : Int), f) = true ∧ ∀ x, OnRing ts ws ((sn : Int), f) x → x ∈ fl.map Prod.fst) ∧ fl = inF ts ws (sn : Int) (outF ts ws k tie a) j ∧ ∀ f', f' < (j : Int) → ¬ Stp_ ts ws k tie a f') ⟨_, _, pl, fl, lv, gl, o, rfl, hF, hfa, (fun f h0 h1 => by omega), hout, fun f' h1 ⟨_, _, _, ⟨h0, _⟩, _⟩ => by omega⟩ (fun j σ G hj hG => ?_) (fun σ G hG => ?_)
      · obtain ⟨y11, y12, pl, fl, lv, gl, o, rfl, hF, hfa, hdn, hin_, hns⟩ := hG
        have hfl := hF.flen
        have stp1 : ∀ {f1 : Int}, (0 : Int) + (j : Int) = f1 → ¬ Stp_ ts ws k tie a f1 → ∀ f', f' < ((j + 1 : Nat) : Int) → ¬ Stp_ ts ws k tie a f' := fun {f1} e hs f' h1 => by
          by_cases c : f' < (j : Int)
          · exact hns f' c
          · have ef : f' = f1 := by omega
            rw [ef]
            exact hs
        generalize hf1 : (0 : Int) + (j : Int) = f1 at *
        have f10 : 0 ≤ f1 := by omega
        have f11 : f1 < k := by omega
        refine ⟨_, rfl, _, rfl, u, _, _, _, rfl, rfl, sqT_of (tkH hF.ke _ _ hu), atI_nat hws, _, rfl, hIs.scal f1, _, rfl, iteB (fun hb => ?_) (fun hb => ?_)⟩
        · have hb : ws[sn] = V.int f1 := of_decide_eq_true hb
          refine ⟨_, _, pl, fl, lv, gl, o, rfl, hF, hfa, (fun f h0 h1 hn => ?_), ?_, stp1 rfl fun ⟨s', o', e1, _, e3, _⟩ => ?_⟩
          · by_cases c : f = f1
            · rw [c, hws, hb] at hn
              exact absurd rfl hn
            · exact hdn f h0 (by omega) hn
          · rw [hin_]
            show _ = (if ws[((sn : Int)).toNat]? = some (.int (j : Int)) then _ else _)
            rw [if_pos (by rw [Int.toNat_natCast, hws, hb, ← hf1]; congr 2; omega)]
          · rw [hfa0] at e1
            cases e1
            rw [Int.toNat_natCast, hws, hb] at e3
            exact e3 rfl
        have hnf : ws[sn]? ≠ some (.int f1) := fun z => by
          rw [hws] at z
          exact (of_decide_eq_false hb) (Option.some.inj z)
        refine ⟨fun σ G => ∃ (gl : List (Int × Addr)) (h : Addr), σ = [some (.ref tw), some (.int k), some (.ref u), some (.ref d), some (.ref nb), some (.ref hg), some (.ref wt), some (.int ((a : Int) + 1)), some (.int (sn : Int)), some (.int (tk ts (sn : Int)).1), some (.int (tk ts (sn : Int)).2), some (.int f1), y12] ∧ FfS H n ts ws k tie d nb hg wt bl G pl fl lv a gl ∧ (f1, h) ∈ gl, ?_, fun σ G hM => ?_⟩
        · refine ⟨_, rfl, _, rfl, hg, _, rfl, DGet.k (k := Sum.inl f1) hF.gh, _, rfl, ?_⟩
          by_cases hin : f1 ∈ gl.map Prod.fst
          · obtain ⟨⟨f2, q2'⟩, hp, e2⟩ := List.mem_map.mp hin
            have e2 : f2 = f1 := e2
            subst e2
            rw [val_in hF.gnd hp]
            exact iteF ⟨gl, q2', rfl, hF, hp⟩
          · rw [val_out hin]
            refine iteT ?_
            have epk : pick ts (numsFrom f1 0 ws) = layerOf ts ws f1 := pick_nums f1 [] ts ws hlw.symm
            have hmb : ∀ m ∈ numsFrom f1 0 ws, 0 ≤ m ∧ m < ts.length := fun m hm => by
              have := nums_bd f1 0 ws m hm
              omega
            have hnl := nums_length f1 0 ws
            refine ⟨_, rfl, _, rfl, nb, rfl, .inl ⟨_, .inl hF.gn⟩, _, rfl, by show 0 ≤ sizeLine; decide, fun z nz => ?_⟩
            have gn4 : (upd G z (.lst [])) nb = some (.dK (kvF bl)) := by rw [upd_ne (ne_of_none hF.gn nz)]; exact hF.gn
            have kz := Ke.new (S := fun _ => False) (o := .lst []) nz
            refine ⟨_, DGet.k (k := Sum.inl f1) gn4, ?_⟩
            obtain ⟨nu, enu, hnu⟩ : ∃ nu, (valV (kvF bl) (Sum.inl f1)).getD (V.ref z) = .ref nu ∧ (upd G z (.lst [])) nu = some (.lst ((numsFrom f1 0 ws).map V.int)) := by
              by_cases c : f1 ∈ bl.map Prod.fst
              · obtain ⟨⟨f2, q2'⟩, hp, e2⟩ := List.mem_map.mp c
                have e2 : f2 = f1 := e2
                subst e2
                rw [val_in hF.by_.nd hp]
                exact ⟨q2', rfl, lst_new nz (hF.by_.each _ hp)⟩
              · rw [val_out c]
                refine ⟨z, rfl, ?_⟩
                rw [upd_same, nums_none fun hx => c ((hF.by_.mem f1).mp hx)]
                rfl
            generalize upd G z _ = G3 at *
            rw [enu]
            have kG3 := hF.ke.trans (Ke.to kz)
            refine ⟨.ref tw, n, ts, nu, numsFrom f1 0 ws, 0, rfl, ⟨tw, wu, rs, rfl, tkH kG3 _ _ htw, tkH kG3 _ _ hwu, hT.mono fun q xs => tkH kG3 q xs⟩, hnu, hok, by decide, by omega, hn1, hmb, by omega, fun G4 hh ds k7 nh gH hHg => ?_⟩
            have kz4 := kz.trans k7
            have gh4 : G4 hg = some (.dK (kvF gl)) := kz4.at_ _ _ hF.gh (fun _ z => nomatch z) fun z => z
            have hgl := hF.glen
            refine ⟨_, rfl, _, rfl, hg, _, rfl, DPut.k (k := Sum.inl f1) gh4 (by rw [kvF_length]; omega), ?_⟩
            rw [put_out hin]
            obtain ⟨vs0, eH⟩ := gH.lst
            have hhw : hh ≠ wt := fun z => by rw [z, Ke.lst kz hF.gw] at nh; cases nh
            have hhg : hh ≠ hg := fun z => by rw [z, gh4] at eH; cases eH
            have kput : Kx (fun b => b = hg) G4 (upd G4 hg (.dK (kvF (gl ++ [(f1, hh)])))) := Ke.put gh4 fun _ z => nomatch z
            have kk : Kx (fun b => b = hg) G (upd G4 hg (.dK (kvF (gl ++ [(f1, hh)])))) := (Ke.to kz4).trans kput
            have ndh : d ≠ hg := fun z => by
              obtain ⟨o9, h9⟩ := hdo
              rw [z, nhgH] at h9
              cases h9
            have nwh : wt ≠ hg := fun z => by have := hF.gw; rw [z, hF.gh] at this; cases this
            refine ⟨gl ++ [(f1, hh)], hh, rfl, hF.step hdo nnb nhgH nwtH nnh kk (fun b z => .inr (.inl z)) (kk.at_ _ _ hF.gd (fun _ z => nomatch z) ndh) (hF.pa.mono fun q xs z => kk.tup z (ne_of z hF.gh (fun y => nomatch y))) hF.bf upd_same ?_ (fun p hp => ?_) (fun p hp => ?_) (kk.at_ _ _ hF.gw (fun _ z => nomatch z) nwh), List.mem_append_right _ List.mem_cons_self⟩
            · rw [List.map_append, List.nodup_append]
              exact ⟨hF.gnd, by simp, fun x hx y hy => by
                have e9 : y = f1 := List.mem_singleton.mp hy
                rw [e9]
                exact fun z => hin (by rw [← z]; exact hx)⟩
            · rcases List.mem_append.mp hp with hp | hp
              · exact hF.grg p hp
              · rw [List.mem_singleton.mp hp]
                exact ⟨f10, f11⟩
            · rcases List.mem_append.mp hp with hp | hp
              · exact .inl hp
              · rw [List.mem_singleton.mp hp]
                exact .inr ⟨hhw, ds, gH.kx kput hhg (fun q xs z => ne_of z gh4 (fun y => nomatch y)), hHg⟩
        obtain ⟨gl, hh, rfl, hF, hgm⟩ := hM
        obtain ⟨_, ds, hHg, hHu⟩ := hF.gea _ hgm
        have epk : pick ts (numsFrom f1 0 ws) = layerOf ts ws f1 := pick_nums f1 [] ts ws hlw.symm
        have htk : ∀ m ∈ numsFrom f1 0 ws, TOk n [ts.getD m.toNat (0, 0)] := fun m hm x hx => by
          have := nums_bd f1 0 ws m hm
          rw [List.mem_singleton.mp hx]
          exact hok _ (List.mem_of_getElem? (getD_at (by omega) (by omega)))
        obtain ⟨da, ea, _⟩ := hHu.all (tk ts (sn : Int)).1 ok1 (by omega)
        obtain ⟨db, eb, _⟩ := hHu.all (tk ts (sn : Int)).2 (by omega) ok3
        have ti := hHu.top_iff htk ok1 (by omega) (show 0 ≤ (tk ts (sn : Int)).2 by omega) ok3 ea eb
        rw [epk] at ti
        refine ⟨_, rfl, _, rfl, hg, .ref hh, rfl, by rw [← val_in hF.gnd hgm]; exact DGet.k (k := Sum.inl f1) hF.gh, _, rfl, _, rfl, hh, ds, n, ts, numsFrom f1 0 ws, _, _, da, db, rfl, hHg, hHu, ok1, by omega, by omega, ok3, ea, eb, hn1, fun z => ?_, fun z H4 c ns k4 nc gc hR => ?_⟩
        · have hj : joinB ts ws ((sn : Int), f1) = false := by
            unfold joinB
            exact decide_eq_false fun y => z (ti.mpr y)
          refine ⟨_, rfl, rfl, _, rfl, iteT ?_⟩
          refine ⟨_, rfl, _, rfl, by show 2 ≤ sizeLine; decide, fun q nq => ?_⟩
          have kq := Ke.new (S := fun _ => False) (o := .tup [.int (sn : Int), .int f1]) nq
          refine q2 _ pl fl lv a (sn : Int) o f1 q (hF.ke.trans (Ke.to kq)) (kq.at_ _ _ hF.gd (fun _ z => nomatch z) fun z => z) (hF.pa.mono fun _ _ => Ke.tup kq) hF.bf hfa upd_same ⟨List.cons_ne_nil _ _, fun e he => ?_, fun e he => ?_, ?_⟩ ?_
          · rw [List.mem_singleton.mp he]
            exact ⟨⟨by show 0 ≤ (sn : Int); omega, by show (sn : Int) < _; omega⟩, f10, f11⟩
          · rw [List.mem_singleton.mp he]
            exact layB_ne (by rw [Int.toNat_natCast]; exact hnf)
          · show (!joinB ts ws ((sn : Int), f1)) = true
            rw [hj]
            rfl
          · refine ⟨by rw [show f1.toNat = j by omega]; exact hin_, ⟨o0, hfa0⟩, ⟨(sn : Int), o0, hfa0, ⟨f10, f11⟩, by rw [Int.toNat_natCast]; exact hnf, hj⟩, fun a' f' h => ?_⟩
            rcases h with h | ⟨rfl, h⟩
            · exact hahead a' f' h
            · exact hns f' (by omega)
        · have hj : joinB ts ws ((sn : Int), f1) = true := by
            unfold joinB
            exact decide_eq_true (ti.mp z)
          have hf : ringlessF (fun x => x) (pick ts (numsFrom f1 0 ws)) = true := by rw [epk]; exact hL.tree f1
          have hmem : ∀ x, x ∈ ns ↔ OnRing ts ws ((sn : Int), f1) x := fun x => hR.mem_iff hf (nums_nd _ _ _) x
          have hnsl : ns.length ≤ ts.length := by
            have := nd_le hR.nd (m := upTo ts.length) fun x hx => upTo_mem.mpr (by
              have := nums_bd f1 0 ws x (hR.mem x hx)
              omega)
            rw [upTo_length] at this
            omega
          refine ⟨_, rfl, rfl, _, rfl, ?_⟩
          rw [decide_eq_false (p := V.ref c = V.non) (fun z => nomatch z)]
          refine iteF ?_
          have gw4 := k4.lst hF.gw
          have gd4 : H4 d = some (.dK (kvV pl)) := k4.at_ _ _ hF.gd (fun _ z => nomatch z) fun z => z
          refine ⟨_, rfl, .inl ⟨rfl, _, sqL_of gw4⟩, _, rfl, _, rfl, _, rfl, _, rfl, by show 2 ≤ sizeLine; decide, fun q nq => ?_⟩
          have kq := Ke.new (S := fun _ => False) (o := .tup [.int (sn : Int), .int f1]) nq
          have k5 := k4.trans kq
          have hpl := hF.pa.length
          have hks := hF.pa.keys
          refine ⟨d, c, q, pl, ns, rfl, kq.at_ _ _ gd4 (fun _ z => nomatch z) fun z => z, by rw [hks]; exact hF.bf.nd, Ke.tup kq gc, hR.nd, by omega, fun H6 l6 k6 nl6 gl6 gd6 => ?_⟩
          have gw5 := Ke.lst kq gw4
          have gq5 : (upd H4 q (.tup [.int (sn : Int), .int f1])) q = some (.tup [.int (sn : Int), .int f1]) := upd_same
          generalize upd H4 q _ = H5 at *
          have nwd : wt ≠ d := fun z => by have := hF.gw; rw [z, hF.gd] at this; cases this
          have gw6 : H6 wt = some (.lst ((fl.map Prod.fst).map V.int)) := k6.at_ _ _ gw5 (fun _ z => nomatch z) nwd
          obtain ⟨new, enew⟩ : ∃ new, new = ns.filter fun x => !decide (x ∈ pl.map Prod.fst) := ⟨_, rfl⟩
          rw [← enew] at gl6 gd6
          have hnw : ∀ x ∈ new, x ∉ fl.map Prod.fst ∧ OnRing ts ws ((sn : Int), f1) x := fun x hx => by
            rw [enew] at hx
            obtain ⟨a1, a2⟩ := List.mem_filter.mp hx
            rw [hks] at a2
            exact ⟨by simpa using a2, (hmem x).mp a1⟩
          have hnn : new.Nodup := by rw [enew]; exact hR.nd.filter _
          have hnl : new.length ≤ ns.length := by rw [enew]; exact List.length_filter_le _ _
          obtain ⟨lv', hB'⟩ := Bfs.adds hlw f10 f11 (by rw [Int.toNat_natCast]; exact hnf) hj new hF.bf hfa hnn hnw
          refine ⟨wt, l6, _, _, rfl, rfl, gw6, gl6, by rw [List.length_map, List.length_map, List.length_map]; omega, ?_⟩
          have al := (List.getElem?_eq_some_iff.mp hfa).1
          have kput : Kx (fun b => b = wt) H6 (upd H6 wt (.lst ((fl.map Prod.fst).map V.int ++ new.map V.int))) := Ke.put gw6 fun _ z => nomatch z
          have kk : Kx (fun b => b = d ∨ b = wt) G (upd H6 wt (.lst ((fl.map Prod.fst).map V.int ++ new.map V.int))) := ((Ke.to k5).trans (k6.mono fun b z => .inl z)).trans (kput.mono fun b z => .inr z)
          have tkG : ∀ q xs, G q = some (.tup xs) → (upd H6 wt (.lst ((fl.map Prod.fst).map V.int ++ new.map V.int))) q = some (.tup xs) := fun q xs z => kk.tup z fun y => y.elim (ne_of z hF.gd (fun y => nomatch y)) (ne_of z hF.gw (fun y => nomatch y))
          have gq7 : (upd H6 wt (.lst ((fl.map Prod.fst).map V.int ++ new.map V.int))) q = some (.tup [.int (sn : Int), .int f1]) := by
            have nqd : q ≠ d := fun z => by rw [z, gd4] at nq; cases nq
            have nqw : q ≠ wt := fun z => by rw [z, gw4] at nq; cases nq
            rw [upd_ne nqw]
            exact k6.at_ _ _ gq5 (fun _ z => nomatch z) nqd
          have ghd : hg ≠ d := fun z => by
            obtain ⟨o9, h9⟩ := hdo
            rw [← z, nhgH] at h9
            cases h9
          have ghw : hg ≠ wt := fun z => by have := hF.gh; rw [z, hF.gw] at this; cases this
          refine ⟨_, _, pl ++ new.map (fun x => (x, V.ref q)), fl ++ new.map (fun x => (x, some ((sn : Int), f1))), lv', gl, o, rfl, hF.step hdo nnb nhgH nwtH nnh kk (fun b z => z.imp id .inr) (by rw [upd_ne nwd.symm]; exact gd6) ((hF.pa.mono tkG).append (PaL.news gq7 new)) hB' (kk.at_ _ _ hF.gh (fun _ z => nomatch z) fun z => z.elim ghd ghw) hF.gnd hF.grg (fun p hp => .inl hp) ?_, by rw [List.getElem?_append_left al]; exact hfa, (fun f h0 h1 hn => ?_), ?_, stp1 rfl fun ⟨s', o', e1, _, _, e4⟩ => ?_⟩
          · have e9 : (new.map fun x => (x, some ((sn : Int), f1))).map Prod.fst = new := by
              rw [List.map_map]
              exact List.map_id new
            rw [upd_same, List.map_append, e9, List.map_append]
          · rw [List.map_append]
            by_cases cf : f = f1
            · rw [cf]
              refine ⟨hj, fun x hx => ?_⟩
              by_cases cx : x ∈ fl.map Prod.fst
              · exact List.mem_append_left _ cx
              · refine List.mem_append_right _ ?_
                rw [List.map_map]
                refine List.mem_map.mpr ⟨x, ?_, rfl⟩
                rw [enew]
                refine List.mem_filter.mpr ⟨(hmem x).mpr hx, ?_⟩
                rw [hks, decide_eq_false cx]
                rfl
            · obtain ⟨b1, b2⟩ := hdn f h0 (by omega) hn
              exact ⟨b1, fun x hx => List.mem_append_left _ (b2 x hx)⟩
          · have ering := ringL_is hlw (hL.tree f1) hR
            rw [show (inF ts ws (sn : Int) (outF ts ws k tie a) (j + 1)) = (if ws[((sn : Int)).toNat]? = some (.int (j : Int)) then _ else grow ts ws (inF ts ws (sn : Int) (outF ts ws k tie a) j) (sn : Int) (j : Int)) from rfl, if_neg (by rw [Int.toNat_natCast, show (j : Int) = f1 by omega]; exact hnf), ← hin_, show (j : Int) = f1 by omega]
            unfold grow
            rw [ering, enew, hks]
          · rw [hfa0] at e1
            cases e1
            rw [hj] at e4
            cases e4
      · obtain ⟨y11, y12, pl, fl, lv, gl, o, rfl, hF, hfa, hdn, hin_, hns⟩ := hG
        have hfl := hF.flen
        have al := (List.getElem?_eq_some_iff.mp hfa).1
        have hB' := hF.bf.next hfa fun f f0 f1 hn => hdn f f0 (by omega) (by rw [Int.toNat_natCast] at hn; exact hn)
        refine ⟨(pl, fl, lv, a + 1, gl), by show ts.length - (a + 1) < ts.length - a; omega, _, _, _, _, _, rfl, ⟨hF.ke, hF.gd, hF.pa, hB', hF.gn, hF.by_, hF.wo, hF.gh, hF.gnd, hF.grg, hF.gea, hF.gw⟩, by show a + 1 ≤ fl.length; omega, ?_, fun a' f' h z => ?_⟩
        · rw [hin_]
          show _ = (match (outF ts ws k tie a)[a]? with | some p => _ | none => _)
          rw [hfa0]
        · by_cases c : a' < a
          · exact hahead a' f' c z
          · have ea : a' = a := by have h : a' < a + 1 := h; omega
            rw [ea] at z
            obtain ⟨_, _, _, ⟨_, h2⟩, _⟩ := id z
            exact hns f' (by omega) z
    · exact q1 _ pl fl lv a hF.ke hF.gd hF.pa hF.bf (by
        have hb : ¬ (a : Int) < (((fl.map Prod.fst).map V.int).length : Int) := of_decide_eq_false hb
        rw [List.length_map, List.length_map] at hb
        omega)
  · rintro σ G Q1 Q2 hQ ⟨x, hx, y, hy, p, ys, hp, hs, i, j, h1, h2, b, hb, hq⟩
    exact ⟨x, hx, y, hy, p, ys, hp, hs, i, j, h1, h2, b, hb, hQ _ _ hq⟩
theorem ok_row_to {P : Program} {w : World} {K : PySem.W.Frag} {mg : Str → Option Value} {base : Heap} {tb : List Addr} {f : Addr} {fd : FuncData} (T : Blt mg) (D_row_to : DefAt K mg "row_to" s_row_to ["pushers", "last"] f fd) :
    FnOk P w K mg base CX0 1 f fd ["pushers", "last"] (sp_row_to K tb) := by
  refine D_row_to.ok sc_row_to (fun vs H Q E h => by
    obtain ⟨ts, ws, k, tie, d, q0, pl, fl, lv, a, i0, x, g, o, rfl, hd, hP, hB, hq, hi0, hp, hfl, q⟩ := h
    all_goals rfl) fun A outer s H vs Q E hr h => ?_
  obtain ⟨ts, ws, k, tie, d, q0, pl, fl, lv, a, i0, x, g, o, rfl, hd, hP, hB, hq, hi0, hp, hfl, q⟩ := h
  refine ⟨_, pss_cons (ps_set (i := 2) sc_row_to.nd rfl (.inl rfl) (pe_lst (pa_cons (pv 1) pa_nil)))
     (pss_cons (ps_while PassesOwn.never (pt_cmpR op_notN (pe_dget (hu_of hr) (pv 0) (pe_ix (ix_tupK (K := K)) (pe_ix (ix_listK (K := K)) (pv 2) (pe_un un_neg (pe_int)) (fun _ _ => rfl)) (pe_int) (fun _ _ => rfl)) (fun _ _ => rfl)) (pe_non) (nomark _))
     (pss_one (ps_expr (pe_bm PySem.F.plainAttrs_list PySem.F.slot_list_append PySem.F.type_list_append mt_append (pv 2) (pa_cons (pe_dget (hu_of hr) (pv 0) (pe_ix (ix_tupK (K := K)) (pe_ix (ix_listK (K := K)) (pv 2) (pe_un un_neg (pe_int)) (fun _ _ => rfl)) (pe_int) (fun _ _ => rfl)) (fun _ _ => rfl)) pa_nil)))))
     (pss_one (ps_ret (pe_callTy (tupleK (K := K)) (by rfl) T.b_tuple (by decide +kernel) (pa_cons ((pe_revLK (K := K)) (pv 2)) pa_nil))))), ?_⟩
  have LB := line_big
  refine ⟨_, rfl, by show 1 ≤ sizeLine; decide, fun l nl => ?_⟩
  have k0 : Ke H (upd H l (.lst [.ref q0])) := Ke.new nl
  have gl0 : (upd H l (.lst [.ref q0])) l = some (.lst [.ref q0]) := upd_same
  have hT0 : Ties (upd H l (.lst [.ref q0])) [.ref q0] [(x, g)] := Ties.one (tup_new nl hq)
  generalize upd H l _ = H1 at *
  refine while_gh (α := List (Int × Int) × Nat) (fun α σ G => ∃ (xs : List V) (e : Int × Int) (r : List (Int × Int)) (o : Option (Int × Int)), σ = [some (.ref d), some (.ref q0), some (.ref l)] ∧ Ke H G ∧ G l = some (.lst xs) ∧ Ties G xs α.1 ∧ α.1.reverse = e :: r ∧ fl[α.2]? = some (e.1, o) ∧ PRow ts ws k (e :: r) ∧ r.length + lv α.2 = lv i0 ∧ r.length + α.2 ≤ i0 ∧ ∃ mid, e :: r = mid ++ [(x, g)] ∧ ∀ es', Pth fl e.1 es' → Pth fl x (es' ++ mid)) (fun α => α.2) ([(x, g)], i0) ?_ (fun α σ G hW => ?_) ?_
  · exact ⟨_, (x, g), [], o, rfl, k0, gl0, hT0, rfl, hi0, hp, by simp, by simp, [], rfl, fun es' z => by rw [List.append_nil]; exact z⟩
  · obtain ⟨rw_, i⟩ := α
    obtain ⟨xs, e, r, o, rfl, kG, gl, hT, hrev, hi, hpr, hlv, hil, mid, hmid, hpth⟩ := hW
    dsimp only at hT hrev hi hlv hil ⊢
    have hne : rw_.length = r.length + 1 := by
      have := congrArg List.length hrev
      rw [List.length_reverse, List.length_cons] at this
      exact this
    have hxl := hT.length
    have hlast : rw_[xs.length - 1]? = some e := by
      have h1 : rw_ = r.reverse ++ [e] := by
        have := congrArg List.reverse hrev
        rw [List.reverse_reverse, List.reverse_cons] at this
        exact this
      rw [h1, hxl, hne, List.getElem?_append_right (by rw [List.length_reverse]; omega), List.length_reverse, show r.length + 1 - 1 - r.length = 0 by omega]
      rfl
    obtain ⟨qe, hxe, hqe⟩ : ∃ qe, xs[xs.length - 1]? = some (.ref qe) ∧ G qe = some (.tup [.int e.1, .int e.2]) := by
      have xl : xs.length - 1 < xs.length := by omega
      obtain ⟨e', q', h1, h2, h3⟩ := hT.get (List.getElem?_eq_getElem xl)
      rw [hlast] at h1
      cases h1
      exact ⟨q', by rw [List.getElem?_eq_getElem xl, h2], h3⟩
    have hPG := hP.mono fun q xs z => kG.tup z
    obtain ⟨v, hvm, _, hv⟩ := hPG.get hi
    have gd : G d = some (.dK (kvV pl)) := kG.at_ _ _ hd (fun _ z => nomatch z) fun z => z
    have hval : valV (kvV pl) (Sum.inl e.1) = some v := kvV_in (by rw [hP.keys]; exact hB.nd) hvm
    have hat := atI_last hxe
    refine ⟨_, rfl, _, rfl, _, rfl, l, _, _, _, rfl, rfl, sqL_of gl, hat, qe, _, 0, _, rfl, rfl, sqT_of hqe, atI_nat (j := 0) rfl, d, v, rfl, by rw [← hval]; exact DGet.k (k := Sum.inl e.1) gd, rfl, _, rfl, ?_⟩
    cases o with
    | none =>
      have hv : v = .non := hv
      subst hv
      refine iteF ?_
      have him := List.mem_of_getElem? hi
      have ei := hB.root i e.1 hi
      subst ei
      rw [hB.head] at hi
      have he1 : e.1 = (tie : Int) := by cases e; cases hi; rfl
      rw [hB.lv0] at hlv
      refine ⟨_, rfl, l, _, rfl, sqL_of gl, fun l2 nl2 => ?_⟩
      refine ⟨l2, _, rfl, .inl ⟨sqL_of upd_same, fun c nc => ?_⟩⟩
      have k2 := kG.trans ((Ke.new (S := fun _ => False) (o := .lst xs.reverse) nl2).trans (Ke.new (o := .tup xs.reverse) nc))
      have hT2 := ((hT.new (o := .lst xs.reverse) nl2).new (o := .tup xs.reverse) nc).reverse
      rw [hrev] at hT2
      exact q _ c xs.reverse e r k2 (kG.dom _ (upd_none nc).2) upd_same hT2 hpr he1 (by omega) ⟨mid, hmid, hpth [] (.root him)⟩
    | some sf =>
      obtain ⟨s, f2⟩ := sf
      obtain ⟨qp, rfl, hqp⟩ := hv
      obtain ⟨hpr2, j, o2, hji, hj, hlv2⟩ := hB.step (g := e.2) hi hpr
      have hil2 : i < fl.length := (List.getElem?_eq_some_iff.mp hi).1
      have hi0l : i0 < fl.length := (List.getElem?_eq_some_iff.mp hi0).1
      refine iteT ?_
      refine ⟨_, rfl, .inl ⟨rfl, _, sqL_of gl⟩, _, rfl, _, rfl, _, rfl, l, _, _, _, rfl, rfl, sqL_of gl, hat, qe, _, 0, _, rfl, rfl, sqT_of hqe, atI_nat (j := 0) rfl, d, _, rfl, by rw [← hval]; exact DGet.k (k := Sum.inl e.1) gd, ?_⟩
      refine ⟨l, _, _, rfl, rfl, gl, by omega, ?_⟩
      have tk : ∀ q ys, G q = some (.tup ys) → (upd G l (.lst (xs ++ [.ref qp]))) q = some (.tup ys) := fun q ys e => by rw [upd_ne (ne_of e gl (fun z => nomatch z))]; exact e
      refine ⟨(rw_ ++ [(s, f2)], j), hji, xs ++ [.ref qp], (s, f2), e :: r, o2, rfl, kG.over nl, upd_same, ((hT.append (Ties.one hqp)).mono tk), ?_, hj, hpr2, ?_, ?_, (s, f2) :: mid, by rw [hmid]; rfl, fun es' z => ?_⟩
      · rw [List.reverse_append, hrev]
        rfl
      · rw [List.length_cons]
        show r.length + 1 + lv j = lv i0
        omega
      · rw [List.length_cons]
        show r.length + 1 + j ≤ i0
        omega
      · have := hpth _ (Pth.step (List.mem_of_getElem? hi) z)
        rw [List.append_assoc] at this
        exact this
  · rintro σ G Q1 Q2 hQ ⟨x1, h1, x2, h2, x3, h3, p1, l1, i1, v1, e1, e2, s1, a1, p2, l2, i2, v2, e3, e4, s2, a2, d1, w1, e5, g1, e6, b, hb, hq⟩
    exact ⟨x1, h1, x2, h2, x3, h3, p1, l1, i1, v1, e1, e2, s1, a1, p2, l2, i2, v2, e3, e4, s2, a2, d1, w1, e5, g1, e6, b, hb, hQ _ _ hq⟩
theorem ok_levels_of {P : Program} {w : World} {K : PySem.W.Frag} {mg : Str → Option Value} {base : Heap} {tb : List Addr} {f : Addr} {fd : FuncData} (T : Blt mg) (D_levels_of : DefAt K mg "levels_of" s_levels_of ["web", "pushers", "n"] f fd) {c Pt : Addr} (TB : LamX.TabB base mg c Pt) (hcd : fd.code = .ref c) (hPt : Pt ∈ tb) :
    FnOk P w K mg base CX0 7 f fd ["web", "pushers", "n"] (sp_levels_of K tb) := by
  refine D_levels_of.ok sc_levels_of (fun vs H Q E h => by
    obtain ⟨v, nn, ts, ws, k, tie, d, pl, fl, lv, a, m, rfl, W, hd, hP, hB, hfl, hlen, hT0, q⟩ := h
    all_goals rfl) fun A outer s H vs Q E hr h => ?_
  obtain ⟨v, nn, ts, ws, k, tie, d, pl, fl, lv, a, m, rfl, W, hd, hP, hB, hfl, hlen, hT0, q⟩ := h
  refine ⟨_, pss_cons (ps_set (i := 3) sc_levels_of.nd rfl (.inr rfl) (pe_dnewK))
     (pss_cons (ps_lock (ps_for PassesOwn.never rfl (pi_items (pv 1)) (tgtK (K := K) (n := 2) (pgs_cons (pg_name (i := 4) sc_levels_of.nd rfl (.inl rfl)) (pgs_cons (pg_name (i := 5) sc_levels_of.nd rfl (.inl rfl)) pgs_nil)))
     (pss_one (ps_dput (hu_of hr) (pv 3) (pv 4) (pe_ifExp (pt_cmpR op_isN (pv 5) (pe_non) (nomark _)) (pe_int) (pe_op op_add (pe_dget (hu_of hr) (pv 3) (pe_ix (ix_tupK (K := K)) (pv 5) (pe_int) (fun _ _ => rfl)) (fun _ _ => rfl)) (pe_int))) (by rfl)))))
     (pss_one (ps_ret (pe_tuple (k := 0) (vs := [2]) (hr.mono (by decide)) (by rfl) T.b_tuple TB hcd (gxs_of (XN := nm_levels_of) (xsc := defScope s_levels_of) (N := ["n", "levels", "number"]) (src := [some 2, some 3, none]) (by decide +kernel)) (pi_range1 (by rfl) T.b_range (pa_cons (pe_callB (lenK (K := K)) (by rfl) T.b_len PySem.boot_len (pa_cons (pe_ix (ix_tupK (K := K)) (pv 0) (pe_int) (fun _ _ => rfl)) pa_nil)) pa_nil)) ⟨fun _ _ _ _ _ _ => pg_name (i := 2) gnd_levels_of_0 rfl (.inl rfl), fun _ _ _ _ _ _ hz => pts_nil, fun _ _ _ _ _ _ hz => pe_dget2 (hu_of hz) (pv 1) (pv 2) (pv 0) ⟨rfl, rfl, rfl, rfl⟩⟩)))), ?_⟩
  have LB := line_big
  obtain ⟨tw, wu, rs, rfl, htw, hwu, hT⟩ := id W
  have hrl := hT.length
  have hpl := hP.length
  have hnd : (pl.map Prod.fst).Nodup := by rw [hP.keys]; exact hB.nd
  refine fun e ne => ?_
  have k1 : Ke H (upd H e (.dK [])) := Ke.new ne
  have ge1 : (upd H e (.dK [])) e = some (.dK (kvV [])) := upd_same
  have gd1 : (upd H e (.dK [])) d = some (.dK (kvV pl)) := by rw [upd_ne (ne_of_none hd ne)]; exact hd
  have nde : d ≠ e := ne_of_none hd ne
  generalize upd H e _ = H1 at *
  refine ⟨d, _, gd1, trivial, fun od => ?_⟩
  have gB : (upd H1 d (.frz od (.dK (kvV pl)))) d = some (.frz od (.dK (kvV pl))) := upd_same
  have geB : (upd H1 d (.frz od (.dK (kvV pl)))) e = some (.dK (kvV [])) := by rw [upd_ne nde.symm]; exact ge1
  have kB : Kx (fun b => b = d) H (upd H1 d (.frz od (.dK (kvV pl)))) := (Ke.to k1).trans (Ke.put gd1 fun _ z => nomatch z)
  generalize upd H1 d _ = B at *
  have tk : ∀ {G : Hp}, Kx (fun b => b = d) H G → ∀ q xs, H q = some (.tup xs) → G q = some (.tup xs) := fun kG q xs z => kG.tup z (ne_of z hd (fun y => nomatch y))
  refine ⟨_, rfl, d, od, _, rfl, gB, ?_⟩
  refine for_it (walk_items (d := d) (o := od) (kvs := kvV pl)) (fun i σ G => ∃ (y4 y5 : Option V) (ll : List (Int × V)), σ = [some (.ref tw), some (.ref d), some (.int m), some (.ref e), y4, y5] ∧ Kx (fun b => b = d) H G ∧ G d = some (.frz od (.dK (kvV pl))) ∧ G e = some (.dK (kvV ll)) ∧ ll.map Prod.fst = (fl.take i).map Prod.fst ∧ ∀ j x o, j < i → fl[j]? = some (x, o) → (x, V.int (lv j : Int)) ∈ ll) ⟨_, _, [], rfl, kB, gB, geB, rfl, fun j _ _ z => by omega⟩ (fun i σ G _ hG => ?_) (fun i x σ G G1 hi hG hy => ?_) (fun σ G hG => ?_)
  · obtain ⟨_, _, _, _, _, g, _⟩ := hG
    exact g
  · obtain ⟨y4, y5, ll, rfl, kG, gd, ge, hks, hll⟩ := hG
    obtain ⟨T1, z1, z2, rfl, nT, rfl, e1, e2⟩ := hy
    rw [kvV_length] at hi
    have hpi := List.getElem?_eq_getElem hi
    have e1 : (kvV pl)[i]?.map (fun kv => kV kv.1) = some z1 := e1
    have e2 : (kvV pl)[i]?.map Prod.snd = some z2 := e2
    unfold kvV at e1 e2
    rw [List.getElem?_map, hpi] at e1 e2
    obtain ⟨⟨x, o⟩, hfi, ex, hv⟩ := paired_get hP hpi
    have hil : i < fl.length := (List.getElem?_eq_some_iff.mp hfi).1
    have ex : pl[i].1 = x := ex
    have hv : PaV H pl[i].2 o := hv
    have hxin : x ∉ ll.map Prod.fst := fun z => by
      rw [hks] at z
      obtain ⟨p, hp, e9⟩ := List.mem_map.mp z
      obtain ⟨b, hb⟩ := List.getElem?_of_mem hp
      have bl := (List.getElem?_eq_some_iff.mp hb).1
      rw [List.length_take] at bl
      rw [List.getElem?_take, if_pos (by omega)] at hb
      have := hB.one (x := x) (o := p.2) (o' := o) (by rw [hb, ← e9]) hfi
      omega
    have hllen : ll.length = i := by
      have := congrArg List.length hks
      rw [List.length_map, List.length_map, List.length_take] at this
      omega
    have hlnd : (ll.map Prod.fst).Nodup := by
      rw [hks]
      exact List.Nodup.sublist ((List.take_sublist _ _).map _) hB.nd
    have ez1 : z1 = V.int x := by
      rw [← Option.some.inj e1]
      show V.int pl[i].1 = V.int x
      rw [ex]
    have ez2 : z2 = pl[i].2 := (Option.some.inj e2).symm
    clear e1 e2
    rw [← ez2] at hv
    clear ez2
    subst ez1
    obtain ⟨v, ev⟩ : ∃ v, v = z2 := ⟨_, rfl⟩
    subst ev
    have kT : Kx (fun b => b = d) H (upd G T1 (.tup [.int x, v])) := kG.trans (Ke.to (Ke.new nT))
    have gd' : (upd G T1 (.tup [.int x, v])) d = some (.frz od (.dK (kvV pl))) := by rw [upd_ne (ne_of_none gd nT)]; exact gd
    have ge' : (upd G T1 (.tup [.int x, v])) e = some (.dK (kvV ll)) := by rw [upd_ne (ne_of_none ge nT)]; exact ge
    refine ⟨T1, _, rfl, sqT_of upd_same, rfl, _, _, rfl, _, [], rfl, rfl, ?_⟩
    generalize upd G T1 _ = G2 at *
    have fin : ∀ l : Int, l = (lv i : Int) → ∃ kvs, G2 e = some (.dK kvs) ∧ True := fun l _ => ⟨_, ge', trivial⟩
    refine ⟨_, rfl, rfl, _, rfl, ?_⟩
    have done_ : ∀ l : Int, l = (lv i : Int) → ∃ (y4 y5 : Option V) (ll' : List (Int × V)), [some (V.ref tw), some (.ref d), some (.int m), some (.ref e), some (.int x), some v] = [some (V.ref tw), some (.ref d), some (.int m), some (.ref e), y4, y5] ∧ Kx (fun b => b = d) H (upd G2 e (.dK (kvV (ll ++ [(x, .int l)])))) ∧ (upd G2 e (.dK (kvV (ll ++ [(x, .int l)])))) d = some (.frz od (.dK (kvV pl))) ∧ (upd G2 e (.dK (kvV (ll ++ [(x, .int l)])))) e = some (.dK (kvV ll')) ∧ ll'.map Prod.fst = (fl.take (i + 1)).map Prod.fst ∧ ∀ j x o, j < i + 1 → fl[j]? = some (x, o) → (x, V.int (lv j : Int)) ∈ ll' := fun l hl => by
      refine ⟨_, _, ll ++ [(x, .int l)], rfl, kT.over ne, by rw [upd_ne nde]; exact gd', upd_same, ?_, fun j x' o' hj hj' => ?_⟩
      · rw [List.map_append, hks, take_next hfi, List.map_append]
        rfl
      · by_cases c : j < i
        · exact List.mem_append_left _ (hll j x' o' c hj')
        · have ej : j = i := by omega
          rw [ej, hfi] at hj'
          cases hj'
          rw [ej, hl]
          exact List.mem_append_right _ List.mem_cons_self
    cases o with
    | none =>
      have hv : v = .non := hv
      rw [decide_eq_true (p := v = .non) hv]
      have ei := hB.root i x hfi
      refine iteT ?_
      refine ⟨_, rfl, _, rfl, e, _, rfl, DPut.k (k := Sum.inl x) ge' (by rw [kvV_length]; omega), ?_⟩
      rw [kvV_put hxin]
      exact done_ 0 (by rw [ei, hB.lv0]; rfl)
    | some sf =>
      obtain ⟨s, f⟩ := sf
      obtain ⟨qp, hvq, hqp⟩ := hv
      obtain ⟨j, hj, ⟨o', ho'⟩, hlv, _⟩ := hB.par i x s f hfi
      rw [decide_eq_false (p := v = .non) (fun z => by rw [hvq] at z; cases z)]
      refine iteF ?_
      have hval : valV (kvV ll) (Sum.inl s) = some (.int (lv j : Int)) := kvV_in hlnd (hll j s o' hj ho')
      refine ⟨_, rfl, _, rfl, qp, _, 0, _, hvq, rfl, sqT_of (tk kT _ _ hqp), atI_nat (j := 0) rfl, e, _, rfl, by rw [← hval]; exact DGet.k (k := Sum.inl s) ge', _, _, rfl, rfl, ?_⟩
      refine ⟨_, rfl, _, rfl, e, _, rfl, DPut.k (k := Sum.inl x) ge' (by rw [kvV_length]; omega), ?_⟩
      rw [kvV_put hxin]
      exact done_ _ (by omega)
  · obtain ⟨y4, y5, ll, rfl, kG, gd, ge, hks, hll⟩ := hG
    refine ⟨gd, ?_⟩
    rw [kvV_length, hpl] at hks hll
    rw [List.take_length] at hks
    have kC : Kx (fun b => b = d) H (upd G d (.dK (kvV pl))) := kG.trans (Ke.put gd fun _ z => nomatch z)
    have geC : (upd G d (.dK (kvV pl))) e = some (.dK (kvV ll)) := by rw [upd_ne nde.symm]; exact ge
    generalize upd G d _ = C at *
    have htwC := tk kC _ _ htw
    have hwuC := tk kC _ _ hwu
    have tC : Tabs tb C := hT0.kx kC
    have hlnd : (ll.map Prod.fst).Nodup := by rw [hks]; exact hB.nd
    have lookup : ∀ x : Int, ∃ w : Int, (valV (kvV ll) (Sum.inl x)).getD (.int m) = .int w ∧ (∀ (i : Nat) o, fl[i]? = some (x, o) → w = lv i) ∧ (x ∉ fl.map Prod.fst → w = m) := fun x => by
      by_cases c : x ∈ fl.map Prod.fst
      · obtain ⟨p, hp, rfl⟩ := List.mem_map.mp c
        obtain ⟨i, hi⟩ := List.getElem?_of_mem hp
        rw [kvV_in hlnd (hll i p.1 p.2 (List.getElem?_eq_some_iff.mp hi).1 hi)]
        exact ⟨_, rfl, fun j o hj => by rw [hB.one (x := p.1) (o := p.2) (o' := o) hi hj], fun z => absurd c z⟩
      · rw [kvV_out (by rw [hks]; exact c)]
        exact ⟨m, rfl, fun i o hi => absurd (hB.key hi) c, fun _ => rfl⟩
    refine ⟨_, rfl, tw, _, 1, _, rfl, rfl, sqT_of htwC, atI_nat (j := 1) rfl, wu, _, rfl, .inr (sqT_of hwuC), _, rfl, by omega, by omega, tC _ hPt, fun H2 htb => ?_⟩
    have k2 : Ke C H2 := Ke.tabd (tC _ hPt) htb
    refine gx_it (a0 := []) (walk_range (lo := 0) (n := rs.length)) (fun i xs G => Ke C G ∧ ∃ ls : List Int, xs = ls.map V.int ∧ ls.length = i ∧ ∀ (j : Nat) w, ls[j]? = some w → (∀ (i : Nat) o, fl[i]? = some ((j : Int), o) → w = lv i) ∧ ((j : Int) ∉ fl.map Prod.fst → w = m)) ⟨k2, [], rfl, rfl, fun j w z => by simp at z⟩ (fun _ _ _ _ _ => trivial) (fun i x xs G G' hi hG hy => ?_) (fun xs G hG => ?_)
    · obtain ⟨kG', ls, rfl, hll2, hls⟩ := hG
      obtain ⟨rfl, rfl⟩ := hy
      obtain ⟨w, hw, h1, h2⟩ := lookup (0 + (i : Int))
      rw [show (0 : Int) + (i : Int) = (i : Int) by omega] at h1 h2
      have geG : G' e = some (.dK (kvV ll)) := kG'.at_ _ _ geC (fun _ z => nomatch z) fun z => z
      refine ⟨rfl, yes_ite ?_⟩
      refine ⟨_, rfl, e, rfl, .inl ⟨_, .inl geG⟩, _, rfl, _, rfl, _, DGet.k (k := Sum.inl (0 + (i : Int))) geG, ?_⟩
      rw [hw]
      refine ⟨by rw [List.length_map]; omega, kG', ls ++ [w], by rw [List.map_append]; rfl, by rw [List.length_append, hll2]; rfl, fun j w' hj => ?_⟩
      by_cases c : j < ls.length
      · rw [List.getElem?_append_left c] at hj
        exact hls j w' hj
      · have jl := (List.getElem?_eq_some_iff.mp hj).1
        rw [List.length_append] at jl
        have jl : j < ls.length + 1 := jl
        have ej : j = i := by omega
        rw [ej, ← hll2, List.getElem?_append_right (Nat.le_refl _), Nat.sub_self] at hj
        cases hj
        rw [ej]
        exact ⟨h1, h2⟩
    · obtain ⟨kG', ls, rfl, hll2, hls⟩ := hG
      refine ⟨by rw [List.length_map]; omega, fun c nc => ?_⟩
      have kk := kC.trans (Ke.to (kG'.trans (Ke.new (o := .tup (ls.map V.int)) nc)))
      have at_ : ∀ x : Int, 0 ≤ x → x < (ts.length : Int) → ls[x.toNat]? = some (hat ls x) := fun x x0 x1 => by
        unfold hat
        rw [List.getD_eq_getElem?_getD, List.getElem?_eq_getElem (by omega)]
        rfl
      refine q _ c ls kk (kC.dom _ (kG'.dom _ nc)) upd_same (by omega) (fun i x o hi => ?_) (fun x x0 x1 hx => ?_)
      · obtain ⟨x0, x1⟩ := hB.rng x (hB.key hi)
        have := (hls x.toNat _ (at_ x x0 x1)).1
        rw [show ((x.toNat : Nat) : Int) = x by omega] at this
        exact this i o hi
      · have := (hls x.toNat _ (at_ x x0 x1)).2
        rw [show ((x.toNat : Nat) : Int) = x by omega] at this
        exact this hx
theorem ok_ends_of {P : Program} {w : World} {K : PySem.W.Frag} {mg : Str → Option Value} {base : Heap} {tb : List Addr} {f : Addr} {fd : FuncData} (T : Blt mg) (D_ends_of : DefAt K mg "ends_of" s_ends_of ["web", "numbers"] f fd) :
    FnOk P w K mg base CX0 1 f fd ["web", "numbers"] (sp_ends_of K tb) := by
  refine D_ends_of.ok sc_ends_of (fun vs H Q E h => by
    obtain ⟨v, n, ts, l, R, rfl, W, hok, hn0, hn1, hlen, hl, hR, q⟩ := h
    all_goals rfl) fun A outer s H vs Q E hr h => ?_
  obtain ⟨v, n, ts, l, R, rfl, W, hok, hn0, hn1, hlen, hl, hR, q⟩ := h
  refine ⟨_, pss_one (ps_ret (pe_callTy (tupleK (K := K)) (by rfl) T.b_tuple (by decide +kernel) (pa_cons (pe_callB (cr_sortedSetB rfl) (by rfl) T.b_sorted (by decide +kernel) (pa_cons (pe_sc2 (own := [("number", 2), ("point", 3)]) (vs1 := [3]) rfl sc_ends_of.nd (pi_list (pv 1)) (blkOk_by (own := [("number", 2), ("point", 3)]) (N := nm_ends_of) (sc := defScope s_ends_of) (by decide +kernel)) (by decide) (fun _ _ _ _ _ => pg_name (i := 2) sc_ends_of.nd rfl (.inl rfl)) (fun _ _ _ _ _ => (pi_tupK (K := K)) (pe_ix (ix_tupK (K := K)) (pe_ix (ix_tupK (K := K)) (pv 0) (pe_int) (fun _ _ => rfl)) (pv 2) (fun _ _ => rfl))) (fun _ _ _ _ _ => pg_name (i := 3) sc_ends_of.nd rfl (.inl rfl)) (fun _ _ _ _ _ => pv 3)) pa_nil)) pa_nil))), ?_⟩
  have LB := line_big
  obtain ⟨tw, wu, rs, rfl, htw, hwu, hT⟩ := id W
  have hrl := hT.length
  have hbd : ∀ t ∈ R, (0 ≤ (tk ts t).1 ∧ (tk ts t).1 < n) ∧ 0 ≤ (tk ts t).2 ∧ (tk ts t).2 < n := fun t ht => by
    obtain ⟨a, b⟩ := hR t ht
    obtain ⟨o1, o2, o3⟩ := hok _ (List.mem_of_getElem? (getD_at a b))
    exact ⟨⟨o1, by show (ts.getD t.toNat (0, 0)).1 < n; omega⟩, by show 0 ≤ (ts.getD t.toNat (0, 0)).2; omega, o3⟩
  have few : ∀ ms : List Int, ms.Nodup → (∀ x ∈ ms, 0 ≤ x ∧ x < n) → ms.length ≤ 60 := fun ms nd hx => by
    have := nd_le nd (m := upTo n) fun x h => upTo_mem.mpr (hx x h)
    rw [upTo_length] at this
    omega
  refine ⟨_, rfl, l, rfl, ⟨_, sqL_of hl⟩, fun D nD => ?_⟩
  rw [SetO_none]
  refine out2_it (walk_list (K := K) (a := l) (xs := R.map V.int)) (fun i G => ∃ ms : List Int, Ke H G ∧ G D = some (SetO w D (fun j => decide (j ∈ ms)) ms.length) ∧ ms.Nodup ∧ ∀ x, x ∈ ms ↔ ∃ t ∈ R.take i, x = (tk ts t).1 ∨ x = (tk ts t).2) ⟨[], Ke.new nD, upd_same, List.nodup_nil, fun x => ⟨(fun z => nomatch z), fun ⟨_, z, _⟩ => nomatch z⟩⟩ (fun i G _ hG => ?_) (fun i x G G' hi hG hy => ?_) (fun G hG => ?_)
  · obtain ⟨_, kG, _⟩ := hG
    exact sqL_of (kG.lst hl)
  · obtain ⟨ms, kG, gD, nd, hms⟩ := hG
    obtain ⟨rfl, hxi⟩ := hy
    obtain ⟨m, hm, rfl⟩ := int_at hxi
    obtain ⟨m0, m1⟩ := hR m (List.mem_of_getElem? hm)
    obtain ⟨e, he, hqe⟩ := hT.at_ m0 m1
    have hb := hbd m (List.mem_of_getElem? hm)
    have hsub : ∀ t ∈ R.take i, t ∈ R := fun t ht => List.mem_of_mem_take ht
    refine ⟨rfl, _, rfl, tw, _, 1, _, rfl, rfl, sqT_of (kG.tup htw), atI_nat (j := 1) rfl, _, rfl, wu, _, _, _, rfl, rfl, sqT_of (kG.tup hwu), he, e, rfl, ⟨_, sqT_of (kG.tup hqe)⟩, ?_⟩
    refine in2_it (walk_tup (K := K) (a := e) (xs := [.int (tk ts m).1, .int (tk ts m).2])) (fun j G1 => ∃ ms : List Int, Ke H G1 ∧ G1 D = some (SetO w D (fun j => decide (j ∈ ms)) ms.length) ∧ ms.Nodup ∧ ∀ x, x ∈ ms ↔ (∃ t ∈ R.take i, x = (tk ts t).1 ∨ x = (tk ts t).2) ∨ x ∈ [(tk ts m).1, (tk ts m).2].take j) ⟨ms, kG, gD, nd, fun x => (hms x).trans ⟨.inl, fun z => z.elim id fun y => nomatch y⟩⟩ (fun j G1 _ hG => ?_) (fun j y G1 G2 hj hG hy => ?_) (fun G1 hG => ?_)
    · obtain ⟨_, k1, _⟩ := hG
      exact sqT_of (k1.tup hqe)
    · obtain ⟨ms1, k1, gD1, nd1, hms1⟩ := hG
      obtain ⟨rfl, hyj⟩ := hy
      obtain ⟨a, ha, rfl⟩ : ∃ a, [(tk ts m).1, (tk ts m).2][j]? = some a ∧ y = .int a := int_at (ns := [(tk ts m).1, (tk ts m).2]) hyj
      have hin : ∀ x ∈ ms1, 0 ≤ x ∧ x < n := fun x hx => by
        rcases (hms1 x).mp hx with ⟨t, ht, z⟩ | z
        · have := hbd t (hsub t ht)
          rcases z with rfl | rfl
          · exact this.1
          · exact this.2
        · have z := List.mem_of_mem_take z
          rcases List.mem_cons.mp z with rfl | z
          · exact hb.1
          · rw [List.mem_singleton.mp z]
            exact hb.2
      have := few ms1 nd1 hin
      refine ⟨rfl, _, rfl, a, _, _, rfl, gD1, by unfold scanBound; omega, ?_⟩
      refine ⟨addN ms1 a, k1.over nD, ?_, addN_nd nd1, fun x => ?_⟩
      · rw [upd_same, SetO_add]
        rfl
      · rw [addN_mem, hms1 x, take_next ha, List.mem_append, List.mem_singleton, or_assoc]
    · obtain ⟨ms1, k1, gD1, nd1, hms1⟩ := hG
      refine ⟨ms1, k1, gD1, nd1, fun x => (hms1 x).trans ?_⟩
      rw [take_next hm]
      constructor
      · rintro (⟨t, ht, z⟩ | z)
        · exact ⟨t, List.mem_append_left _ ht, z⟩
        · refine ⟨m, List.mem_append_right _ List.mem_cons_self, ?_⟩
          rcases List.mem_cons.mp (List.mem_of_mem_take z) with z | z
          · exact .inl z
          · exact .inr (List.mem_singleton.mp z)
      · rintro ⟨t, ht, z⟩
        rcases List.mem_append.mp ht with ht | ht
        · exact .inl ⟨t, ht, z⟩
        · rw [List.mem_singleton.mp ht] at z
          refine .inr ?_
          rcases z with rfl | rfl
          · exact List.mem_cons_self
          · exact List.mem_cons_of_mem _ List.mem_cons_self
  · obtain ⟨ms, kG, gD, nd, hms⟩ := hG
    rw [List.length_map, List.take_length] at hms
    have hin : ∀ x ∈ ms, 0 ≤ x ∧ x < n := fun x hx => by
      obtain ⟨t, ht, z⟩ := (hms x).mp hx
      have := hbd t ht
      rcases z with rfl | rfl
      · exact this.1
      · exact this.2
    have hfew := few ms nd hin
    refine ⟨D, _, _, rfl, gD, by omega, fun ls p2 hup hmem hll np2 => ?_⟩
    refine ⟨p2, _, rfl, .inl ⟨sqL_of upd_same, fun c nc => ?_⟩⟩
    have hls : ∀ k, k ∈ ls ↔ k ∈ ms := fun k => (hmem k).trans ⟨of_decide_eq_true, decide_eq_true⟩
    have k2 := kG.trans ((Ke.new (S := fun _ => False) (o := .lst (ls.map V.int)) np2).trans (Ke.new (o := .tup (ls.map V.int)) nc))
    exact q _ c ls k2 (kG.dom _ (upd_none nc).2) upd_same hup (fun x hx => hin x ((hls x).mp hx)) ⟨hup.imp fun z => by omega, fun x => (hls x).trans (hms x)⟩
theorem ok_push_tie {P : Program} {w : World} {K : PySem.W.Frag} {mg : Str → Option Value} {base : Heap} {tb : List Addr} {f : Addr} {fd : FuncData} {f_first_free : Addr} {fd_first_free : FuncData} {f_row_to : Addr} {fd_row_to : FuncData} {f_levels_of : Addr} {fd_levels_of : FuncData} {f_ends_of : Addr} {fd_ends_of : FuncData} (T : Blt mg) (D_push_tie : DefAt K mg "push_tie" s_push_tie ["web", "k", "laying", "tie"] f fd) (D_first_free : DefAt K mg "first_free" s_first_free ["web", "k", "laying", "pushers"] f_first_free fd_first_free) (G_first_free : FnOk P w K mg base CX0 3 f_first_free fd_first_free ["web", "k", "laying", "pushers"] (sp_first_free K tb)) (D_row_to : DefAt K mg "row_to" s_row_to ["pushers", "last"] f_row_to fd_row_to) (G_row_to : FnOk P w K mg base CX0 1 f_row_to fd_row_to ["pushers", "last"] (sp_row_to K tb)) (D_levels_of : DefAt K mg "levels_of" s_levels_of ["web", "pushers", "n"] f_levels_of fd_levels_of) (G_levels_of : FnOk P w K mg base CX0 7 f_levels_of fd_levels_of ["web", "pushers", "n"] (sp_levels_of K tb)) (D_ends_of : DefAt K mg "ends_of" s_ends_of ["web", "numbers"] f_ends_of fd_ends_of) (G_ends_of : FnOk P w K mg base CX0 1 f_ends_of fd_ends_of ["web", "numbers"] (sp_ends_of K tb)) :
    FnOk P w K mg base CX0 8 f fd ["web", "k", "laying", "tie"] (sp_push_tie K tb) := by
  refine D_push_tie.ok sc_push_tie (fun vs H Q E h => by
    obtain ⟨v, n, ts, k, u, ws, tie, rfl, W, hu, hL, hok, hn0, hn1, hlen, hk0, hk1, htl, hnon, hT0, q0⟩ := h
    all_goals rfl) fun A outer s H vs Q E hr h => ?_
  obtain ⟨v, n, ts, k, u, ws, tie, rfl, W, hu, hL, hok, hn0, hn1, hlen, hk0, hk1, htl, hnon, hT0, q0⟩ := h
  refine ⟨_, pss_cons (ps_set (i := 4) sc_push_tie.nd rfl (.inl rfl) (pe_disp (pps_cons (pv 3) (pe_non) pps_nil) (by rfl) (by rfl) (fun z => by cases z) (by decide)))
     (pss_cons (ps_set (i := 5) sc_push_tie.nd rfl (.inl rfl) (pe_call G_first_free (hr.mono (by decide)) (by rfl) D_first_free.g D_first_free.F.kp D_first_free.b .nil pass0 (pa_cons (pv 0) (pa_cons (pv 1) (pa_cons (pv 2) (pa_cons (pv 4) pa_nil))))))
     (pss_cons (ps_if (pt_cmpR op_isN (pv 5) (pe_non) (nomark _))
     (pss_one (ps_ret (pe_tup (pa_cons (pe_str) (pa_cons (pe_call G_ends_of (hr.mono (by decide)) (by rfl) D_ends_of.g D_ends_of.F.kp D_ends_of.b .nil pass0 (pa_cons (pv 0) (pa_cons (pe_callTy (call_list_dK rfl) (by rfl) T.b_list (by decide +kernel) (pa_cons (pv 4) pa_nil)) pa_nil))) pa_nil)))))
     (pss_nil))
     (pss_cons (ps_set (i := 6) sc_push_tie.nd rfl (.inl rfl) (pe_call G_row_to (hr.mono (by decide)) (by rfl) D_row_to.g D_row_to.F.kp D_row_to.b .nil pass0 (pa_cons (pv 4) (pa_cons (pv 5) pa_nil))))
     (pss_one (ps_ret (pe_tup (pa_cons (pe_str) (pa_cons (pv 6) (pa_cons (pe_call G_levels_of (hr.mono (by decide)) (by rfl) D_levels_of.g D_levels_of.F.kp D_levels_of.b .nil pass0 (pa_cons (pv 0) (pa_cons (pv 4) (pa_cons (pe_callB (lenK (K := K)) (by rfl) T.b_len PySem.boot_len (pa_cons (pv 6) pa_nil)) pa_nil)))) pa_nil))))))))), ?_⟩
  have LB := line_big
  refine fun d nd => ⟨_, rfl, upd_same, [(Sum.inl (tie : Int), .non)], rfl, by show 1 ≤ 15; decide, ?_⟩
  have k1 : Ke H (upd (upd H d (.dK [])) d (.dK (mergeK [] [(Sum.inl (tie : Int), .non)]))) := (Ke.new nd).over nd
  have gd1 : (upd (upd H d (.dK [])) d (.dK (mergeK [] [(Sum.inl (tie : Int), .non)]))) d = some (.dK (kvV [((tie : Int), .non)])) := by
    rw [upd_same]
    rfl
  generalize upd (upd H d _) d _ = H1 at *
  have kH : ∀ {G : Hp}, Kx (fun b => b = d) H1 G → Ke H G := fun kk => ⟨fun b o e n _ => kk.at_ b o (k1.at_ b o e n fun z => z) n fun z => (by rw [z, nd] at e; cases e), fun b t => kk.tab b (k1.tab b t), fun b e => k1.dom b (kk.dom b e), fun b ps l _ e => kk.lam b ps l (fun z => (by rw [z, nd] at e; cases e)) (k1.lam b ps l (fun z => z) e)⟩
  refine ⟨_, rfl, _, rfl, _, rfl, _, rfl, v, n, ts, k, u, ws, tie, d, rfl, W.ke k1, k1.tup hu, hL, hok, hn0, by omega, by omega, hk0, hk1, htl, gd1, fun H2 pl fl lv a k2 gd2 hP hB ha => ?_, fun H2 pl fl lv a x o g q k2 gd2 hP hB hfa hq hpr hFst => ?_⟩
  · have kA := kH k2
    have hfl : fl.length ≤ ts.length := by
      have := nd_le hB.nd (m := upTo ts.length) fun x hx => upTo_mem.mpr (hB.rng x hx)
      rw [List.length_map, upTo_length] at this
      omega
    refine ⟨_, rfl, rfl, _, rfl, iteT ?_⟩
    refine ⟨_, rfl, _, rfl, d, _, rfl, gd2, fun l nl => ?_⟩
    have ek : (kvV pl).map (fun kv => kV kv.1) = (fl.map Prod.fst).map V.int := by
      rw [← hP.keys]
      unfold kvV
      rw [List.map_map, List.map_map]
      rfl
    rw [ek]
    have k3 := kA.trans (Ke.new (S := fun _ => False) (o := .lst ((fl.map Prod.fst).map V.int)) nl)
    have hC := hB.closed ha hL htl
    have hmem : (tie : Int) ∈ fl.map Prod.fst := hB.key hB.head
    refine ⟨v, n, ts, l, fl.map Prod.fst, rfl, W.ke k3, hok, by omega, hn1, by omega, upd_same, hC.rng, fun H3 c ls k4 nc hc hup hrg hE => ?_⟩
    refine ⟨by show 2 ≤ sizeLine; decide, fun x nx => ?_⟩
    have hne : ls ≠ [] := fun z => by
      have := (hE.mem (tk ts (tie : Int)).1).mpr ⟨_, hmem, .inl rfl⟩
      rw [z] at this
      cases this
    exact q0 _ x ((k3.trans k4).trans (Ke.new nx)) (.inr ⟨c, ls, _, upd_same, tup_new nx hc, ⟨hne, hup, hrg⟩, hE, hC, hmem, hB.mem_rch ha hL.len⟩)
  · have kA := kH k2
    have hfl : fl.length ≤ ts.length := by
      have := nd_le hB.nd (m := upTo ts.length) fun x hx => upTo_mem.mpr (hB.rng x hx)
      rw [List.length_map, upTo_length] at this
      omega
    have al := (List.getElem?_eq_some_iff.mp hfa).1
    refine ⟨_, rfl, rfl, _, rfl, ?_⟩
    rw [decide_eq_false (p := V.ref q = V.non) (fun z => nomatch z)]
    refine iteF ?_
    refine ⟨_, rfl, _, rfl, ts, ws, k, tie, d, q, pl, fl, lv, a, a, x, g, o, rfl, gd2, hP, hB, hq, hfa, hpr, by omega, fun H3 r xs e es k3 nr hr hTs hpr2 he hel hpth => ?_⟩
    have gd3 : H3 d = some (.dK (kvV pl)) := k3.at_ _ _ gd2 (fun _ z => nomatch z) fun z => z
    have kB := kA.trans k3
    have hxl := hTs.length
    refine ⟨_, rfl, _, rfl, _, rfl, _, rfl, r, _, rfl, .inr (sqT_of hr), ?_⟩
    rw [hxl, List.length_cons, hel]
    refine ⟨v, n, ts, ws, k, tie, d, pl, fl, lv, a, ((lv a + 1 : Nat) : Int), rfl, W.ke kB, gd3, hP.mono fun _ _ => k3.tup, hB, by omega, by omega, hT0.kx kB, fun H4 c ls k4 nc hc hll h1 h2 => ?_⟩
    have k5 : Ke H H4 := kH ((k2.trans (Ke.to k3)).trans k4)
    have hr4 : H4 r = some (.tup xs) := k4.tup hr (ne_of hr gd3 (fun z => nomatch z))
    have hT4 : Ties H4 xs (e :: es) := hTs.mono fun q ys z => k4.tup z (ne_of z gd3 (fun z => nomatch z))
    refine ⟨by show 3 ≤ sizeLine; decide, fun y ny => ?_⟩
    have hlv := hB.levels al h1 (fun x x0 x1 hx => by rw [h2 x x0 x1 hx]; omega) hL.len
    have lvl : ∀ i, i < fl.length → lv i ≤ i := by
      intro i
      induction i using Nat.strongRecOn with
      | _ i ih =>
        intro hi
        obtain ⟨x', o', hx'⟩ : ∃ x' o', fl[i]? = some (x', o') := ⟨fl[i].1, fl[i].2, List.getElem?_eq_getElem hi⟩
        cases o' with
        | none =>
          rw [hB.root i x' hx', hB.lv0]
          exact Nat.le_refl _
        | some sf =>
          obtain ⟨j, hj, _, hl, _⟩ := hB.par i x' sf.1 sf.2 hx'
          have := ih j hj (by omega)
          omega
    have top := lvl a al
    obtain ⟨mid, hmid, hpath⟩ := hpth
    refine q0 _ y (k5.trans (Ke.new ny)) (.inl ⟨r, c, xs, e, es, ls, upd_same, tup_new ny hr4, hT4.new ny, tup_new ny hc, hpr2, he, hll, (fun z hz => ?_), (by rw [List.length_cons, hel]; rw [show (((lv a + 1 : Nat)) : Int) = (lv a : Int) + 1 by omega]; exact hlv), fl, lv, a, x, g, mid, hFst, hB, hmid, hpath, h1, fun y y0 y1 hy => ?_⟩)
    rotate_left
    · have := h2 y y0 y1 hy
      rw [this, List.length_cons, hel]
    obtain ⟨j, hj⟩ := List.getElem?_of_mem hz
    have jl := (List.getElem?_eq_some_iff.mp hj).1
    have hz' : z = hat ls (j : Int) := (hat_get hj).symm
    by_cases cj : (j : Int) ∈ fl.map Prod.fst
    · obtain ⟨p, hp, ep⟩ := List.mem_map.mp cj
      obtain ⟨i, hi⟩ := List.getElem?_of_mem hp
      have := h1 i p.1 p.2 hi
      rw [ep] at this
      have hil := (List.getElem?_eq_some_iff.mp hi).1
      have := lvl i hil
      omega
    · have := h2 (j : Int) (by omega) (by omega) cj
      omega
theorem ok_is_beyond_rooms {P : Program} {w : World} {K : PySem.W.Frag} {mg : Str → Option Value} {base : Heap} {tb : List Addr} {f : Addr} {fd : FuncData} (T : Blt mg) (D_is_beyond_rooms : DefAt K mg "is_beyond_rooms" s_is_beyond_rooms ["web"] f fd) :
    FnOk P w K mg base CX0 1 f fd ["web"] (sp_is_beyond_rooms K tb) := by
  refine D_is_beyond_rooms.ok sc_is_beyond_rooms (fun vs H Q E h => by
    obtain ⟨v, n, ts, rfl, W, hn, hlen, q⟩ := h
    all_goals rfl) fun A outer s H vs Q E hr h => ?_
  obtain ⟨v, n, ts, rfl, W, hn, hlen, q⟩ := h
  refine ⟨_, pss_one (ps_ret (pe_or (pe_cmpR op_gt (pe_ix (ix_tupK (K := K)) (pv 0) (pe_int) (fun _ _ => rfl)) (pe_glob (v := .int 16) (by rfl) T.c_MOST_POINTS_FOR_ROOMS.choose_spec ⟨_, rfl⟩) (nomark _)) (pe_one (pe_cmpR op_ge (pe_callB (lenK (K := K)) (by rfl) T.b_len PySem.boot_len (pa_cons (pe_ix (ix_tupK (K := K)) (pv 0) (pe_int) (fun _ _ => rfl)) pa_nil)) (pe_glob (v := .int 120) (by rfl) T.c_MOST_TIES.choose_spec ⟨_, rfl⟩) (nomark _))))), ?_⟩
  have LB := line_big
  obtain ⟨tw, w0, rs, rfl, htw, hw0, hT⟩ := id W
  have hrl := hT.length
  refine ⟨_, rfl, tw, _, 0, _, rfl, rfl, sqT_of htw, atI_nat (j := 0) rfl, _, _, rfl, rfl, false, by show V.bl (decide ((16 : Int) < n)) = _; rw [decide_eq_false (by omega)], iteF ?_⟩
  refine ⟨_, rfl, tw, _, 1, _, rfl, rfl, sqT_of htw, atI_nat (j := 1) rfl, w0, _, rfl, .inr (sqT_of hw0), _, _, rfl, rfl, ?_⟩
  have e : decide ((120 : Int) ≤ (rs.length : Int)) = false := decide_eq_false (by omega)
  show Q (.bl (decide ((120 : Int) ≤ (rs.length : Int)))) H
  rw [e]
  exact q
theorem ok_pairs_of {P : Program} {w : World} {K : PySem.W.Frag} {mg : Str → Option Value} {base : Heap} {tb : List Addr} {f : Addr} {fd : FuncData} (T : Blt mg) (D_pairs_of : DefAt K mg "pairs_of" s_pairs_of ["web"] f fd) :
    FnOk P w K mg base CX0 1 f fd ["web"] (sp_pairs_of K tb) := by
  refine D_pairs_of.ok sc_pairs_of (fun vs H Q E h => by
    obtain ⟨v, n, ts, rfl, W, hn0, hn1, q⟩ := h
    all_goals rfl) fun A outer s H vs Q E hr h => ?_
  obtain ⟨v, n, ts, rfl, W, hn0, hn1, q⟩ := h
  refine ⟨_, pss_one (ps_ret (pe_lc2 (own := [("a", 1), ("b", 2)]) (vs1 := [2]) rfl sc_pairs_of.nd (pi_range1 (by rfl) T.b_range (pa_cons (pe_ix (ix_tupK (K := K)) (pv 0) (pe_int) (fun _ _ => rfl)) pa_nil)) (blkOk_by (own := [("a", 1), ("b", 2)]) (N := nm_pairs_of) (sc := defScope s_pairs_of) (by decide +kernel)) (by decide) (fun _ _ _ _ _ => pg_name (i := 1) sc_pairs_of.nd rfl (.inl rfl)) (fun _ _ _ _ _ => pts_nil) (fun _ _ _ _ _ => pi_range2 (by rfl) T.b_range (pa_cons (pe_op op_add (pv 1) (pe_int)) (pa_cons (pe_ix (ix_tupK (K := K)) (pv 0) (pe_int) (fun _ _ => rfl)) pa_nil))) (fun _ _ _ _ _ => pg_name (i := 2) sc_pairs_of.nd rfl (.inl rfl)) (fun _ _ _ _ _ => pts_nil) (fun _ _ _ _ _ => pe_tup (pa_cons (pv 1) (pa_cons (pv 2) pa_nil))))), ?_⟩
  have LB := line_big
  obtain ⟨tw, w0, rs, rfl, htw, hw0, hT⟩ := id W
  refine ⟨_, rfl, tw, _, 0, _, rfl, rfl, sqT_of htw, atI_nat (j := 0) rfl, ?_⟩
  obtain ⟨m, rfl⟩ : ∃ m : Nat, n = m := ⟨n.toNat, by omega⟩
  refine ⟨m, rfl, by omega, by omega, fun D nD => ?_⟩
  refine lc2_out (walk_range (lo := 0) (n := m)) (fun j G1 => ∃ xs, Ke H G1 ∧ G1 D = some (.lst xs) ∧ Ties G1 xs ((upTo (j : Int)).flatMap (rowP m))) ⟨[], Ke.new nD, upd_same, .nil⟩ (fun _ _ _ _ => True.intro) (fun j x G1 G2 hj hG hy => ?_) (fun G1 hG => ?_)
  · obtain ⟨xs, k1, gD, hX⟩ := hG
    obtain ⟨rfl, rfl⟩ := hy
    refine ⟨rfl, yes_ite ?_⟩
    have hjl : ((upTo (j : Int)).flatMap (rowP m)).length ≤ 16 * 16 := by
      refine Nat.le_trans (flat_le (m := 16) fun a ha => ?_) ?_
      · have := upTo_mem.mp ha
        rw [rowP_length]
        omega
      · rw [upTo_length]
        exact Nat.mul_le_mul_right _ (by omega)
    refine ⟨_, rfl, _, _, rfl, rfl, _, rfl, tw, _, 0, _, rfl, rfl, sqT_of (k1.tup htw), atI_nat (j := 0) rfl, 0 + (j : Int) + 1, (m : Int), rfl, ⟨by omega, by omega, by omega, by omega⟩, ?_⟩
    refine lc2_in (walk_range (lo := 0 + (j : Int) + 1) (n := ((m : Int) - (0 + (j : Int) + 1)).toNat)) (fun b G3 => ∃ xs, Ke H G3 ∧ G3 D = some (.lst xs) ∧ Ties G3 xs (((upTo (j : Int)).flatMap (rowP m)) ++ (upTo (b : Int)).map fun i => ((j : Int), (j : Int) + 1 + i))) ⟨xs, k1, gD, by rw [show upTo ((0 : Nat) : Int) = [] from rfl, List.map_nil, List.append_nil]; exact hX⟩ (fun _ _ _ _ => True.intro) (fun b y G3 G4 hb hG hy => ?_) (fun G3 hG => ?_)
    · obtain ⟨zs, k3, gD3, hZ⟩ := hG
      obtain ⟨rfl, rfl⟩ := hy
      have hzl := hZ.length
      rw [List.length_append, List.length_map, upTo_length] at hzl
      refine ⟨rfl, yes_ite ?_⟩
      refine ⟨_, rfl, _, rfl, by show 2 ≤ sizeLine; decide, fun z2 nz2 => ?_⟩
      have kz2 := Ke.new (S := fun _ => False) (o := .tup [.int (0 + (j : Int)), .int (0 + (j : Int) + 1 + (b : Int))]) nz2
      have gD5 := Ke.lst kz2 gD3
      refine ⟨zs, gD5, by omega, zs ++ [.ref z2], (k3.trans kz2).over nD, upd_same, ?_⟩
      rw [show ((b + 1 : Nat) : Int) = (b : Int) + 1 by omega, upTo_snoc, List.map_append, ← List.append_assoc]
      refine ((hZ.ke kz2).append (Ties.one ?_)).put gD5
      rw [upd_same, Int.zero_add]
    · obtain ⟨zs, k3, gD3, hZ⟩ := hG
      have e : ((((m : Int) - (0 + (j : Int) + 1)).toNat : Nat) : Int) = (m : Int) - ((j : Int) + 1) := by omega
      rw [e] at hZ
      refine ⟨zs, k3, gD3, ?_⟩
      rw [show ((j + 1 : Nat) : Int) = (j : Int) + 1 by omega, upTo_snoc, List.flatMap_append, List.flatMap_cons, List.flatMap_nil, List.append_nil]
      exact hZ
  · obtain ⟨xs, k1, gD, hX⟩ := hG
    exact q _ D k1 nD ⟨xs, gD, hX⟩
theorem ok_is_held {P : Program} {w : World} {K : PySem.W.Frag} {mg : Str → Option Value} {base : Heap} {tb : List Addr} {f : Addr} {fd : FuncData} (T : Blt mg) (D_is_held : DefAt K mg "is_held" s_is_held ["lots", "pair"] f fd) {c Pt : Addr} (TB : LamX.TabB base mg c Pt) (hcd : fd.code = .ref c) (hPt : Pt ∈ tb) :
    FnOk P w K mg base CX0 4 f fd ["lots", "pair"] (sp_is_held K tb) := by
  refine D_is_held.ok sc_is_held (fun vs H Q E h => by
    obtain ⟨l, pr, xs, lots, a, b, rfl, hl, hL, hp, hT0, q⟩ := h
    all_goals rfl) fun A outer s H vs Q E hr h => ?_
  obtain ⟨l, pr, xs, lots, a, b, rfl, hl, hL, hp, hT0, q⟩ := h
  refine ⟨_, pss_one (ps_ret (pe_any (k := 0) (vs := [1]) (hr.mono (by decide)) (by rfl) T.b_any TB hcd (gxs_of (XN := nm_is_held) (xsc := defScope s_is_held) (N := ["pair", "lot"]) (src := [some 1, none]) (by decide +kernel)) (pi_list (pv 0)) ⟨fun _ _ _ _ _ _ => pg_name (i := 1) gnd_is_held_0 rfl (.inl rfl), fun _ _ _ _ _ _ hz => pts_nil, fun _ _ _ _ _ _ hz => pe_and (pe_cmpR (in_seqK (K := K)) (pe_ix (ix_tupK (K := K)) (pv 0) (pe_int) (fun _ _ => rfl)) (pv 1) (by rfl)) (pe_one (pe_cmpR (in_seqK (K := K)) (pe_ix (ix_tupK (K := K)) (pv 0) (pe_int) (fun _ _ => rfl)) (pv 1) (by rfl)))⟩)), ?_⟩
  refine ⟨_, rfl, l, rfl, ⟨_, sqL_of hl⟩, hT0 _ hPt, fun H2 htb => ?_⟩
  have k2 : Ke H H2 := Ke.tabd (hT0 _ hPt) htb
  have hl2 := k2.lst hl
  refine gx_all (walk_list (K := K) (a := l) (xs := xs)) (fun i G => Ke H2 G ∧ ∀ p ∈ lots.take i, (decide (a ∈ p) && decide (b ∈ p)) = false) ⟨.refl, fun _ z => nomatch z⟩ (fun i G _ hG => sqL_of (hG.1.lst hl2)) (fun i x G G' hi hG hy => ?_) (fun G hG => ?_)
  · obtain ⟨kG, ho⟩ := hG
    obtain ⟨rfl, hxi⟩ := hy
    obtain ⟨ls, q', hls, rfl, hq'⟩ := hL.get hxi
    have kk := k2.trans kG
    have hq2 := Ke.tup kk hq'
    have hp2 := Ke.tup kk hp
    refine ⟨rfl, yes_ite ?_⟩
    have hNo : ∀ c : Bool, (decide (a ∈ ls) && decide (b ∈ ls)) = c → if c = true then Q (.bl true) G' else (Ke H2 G' ∧ ∀ (p : List Int), p ∈ List.take (i + 1) lots → (decide (a ∈ p) && decide (b ∈ p)) = false) := fun c hc => by
      cases c with
      | true =>
        have q0 := q _ kk
        rw [show heldB lots a b = true from List.any_eq_true.mpr ⟨ls, List.mem_of_getElem? hls, hc⟩] at q0
        exact iteT q0
      | false =>
        refine iteF ⟨kG, fun p hp => ?_⟩
        rw [take_next hls] at hp
        rcases List.mem_append.mp hp with hp | hp
        · exact ho p hp
        · rw [List.mem_singleton.mp hp]
          exact hc
    refine ⟨_, rfl, pr, _, 0, _, rfl, rfl, sqT_of hp2, atI_nat (j := 0) rfl, _, rfl, q', _, rfl, .inr (sqT_of hq2), rfl, flat_ints ls, ?_⟩
    rw [inV_int]
    refine ⟨decide (a ∈ ls), rfl, iteB (fun ha => ?_) (fun ha => ?_)⟩
    · refine ⟨_, rfl, pr, _, 1, _, rfl, rfl, sqT_of hp2, atI_nat (j := 1) rfl, _, rfl, q', _, rfl, .inr (sqT_of hq2), rfl, flat_ints ls, ?_⟩
      rw [inV_int]
      exact ⟨decide (b ∈ ls), rfl, hNo _ (by rw [ha, Bool.true_and])⟩
    · exact ⟨false, rfl, hNo _ (by rw [ha, Bool.false_and])⟩
  · obtain ⟨kG, ho⟩ := hG
    rw [hL.length, List.take_length] at ho
    have q0 := q _ (k2.trans kG)
    rw [show heldB lots a b = false from List.any_eq_false.mpr fun p hp => by rw [ho p hp]; exact Bool.false_ne_true] at q0
    exact q0
theorem ok_rooms_of {P : Program} {w : World} {K : PySem.W.Frag} {mg : Str → Option Value} {base : Heap} {tb : List Addr} {f : Addr} {fd : FuncData} {f_with_tie : Addr} {fd_with_tie : FuncData} {f_push_tie : Addr} {fd_push_tie : FuncData} {f_is_beyond_rooms : Addr} {fd_is_beyond_rooms : FuncData} {f_pairs_of : Addr} {fd_pairs_of : FuncData} {f_is_held : Addr} {fd_is_held : FuncData} (T : Blt mg) (D_rooms_of : DefAt K mg "rooms_of" s_rooms_of ["web", "k", "laying"] f fd) (D_with_tie : DefAt K mg "with_tie" s_with_tie ["web", "a", "b"] f_with_tie fd_with_tie) (G_with_tie : FnOk P w K mg base CX0 2 f_with_tie fd_with_tie ["web", "a", "b"] (sp_with_tie K tb)) (D_push_tie : DefAt K mg "push_tie" s_push_tie ["web", "k", "laying", "tie"] f_push_tie fd_push_tie) (G_push_tie : FnOk P w K mg base CX0 8 f_push_tie fd_push_tie ["web", "k", "laying", "tie"] (sp_push_tie K tb)) (D_is_beyond_rooms : DefAt K mg "is_beyond_rooms" s_is_beyond_rooms ["web"] f_is_beyond_rooms fd_is_beyond_rooms) (G_is_beyond_rooms : FnOk P w K mg base CX0 1 f_is_beyond_rooms fd_is_beyond_rooms ["web"] (sp_is_beyond_rooms K tb)) (D_pairs_of : DefAt K mg "pairs_of" s_pairs_of ["web"] f_pairs_of fd_pairs_of) (G_pairs_of : FnOk P w K mg base CX0 1 f_pairs_of fd_pairs_of ["web"] (sp_pairs_of K tb)) (D_is_held : DefAt K mg "is_held" s_is_held ["lots", "pair"] f_is_held fd_is_held) (G_is_held : FnOk P w K mg base CX0 4 f_is_held fd_is_held ["lots", "pair"] (sp_is_held K tb)) :
    FnOk P w K mg base CX0 9 f fd ["web", "k", "laying"] (sp_rooms_of K tb) := by
  refine D_rooms_of.ok sc_rooms_of (fun vs H Q E h => by
    obtain ⟨v, n, ts, k, u, ws, rfl, W, hok, hn0, hn1, hlen, hk0, hk1, hu, hL, hT0, q⟩ := h
    all_goals rfl) fun A outer s H vs Q E hr h => ?_
  obtain ⟨v, n, ts, k, u, ws, rfl, W, hok, hn0, hn1, hlen, hk0, hk1, hu, hL, hT0, q⟩ := h
  refine ⟨_, pss_cons (ps_if (pt_val (pe_call G_is_beyond_rooms (hr.mono (by decide)) (by rfl) D_is_beyond_rooms.g D_is_beyond_rooms.F.kp D_is_beyond_rooms.b .nil pass0 (pa_cons (pv 0) pa_nil)))
     (pss_one (ps_never))
     (pss_nil))
     (pss_cons (ps_set (i := 3) sc_rooms_of.nd rfl (.inl rfl) (pe_lst pa_nil))
     (pss_cons (ps_set (i := 4) sc_rooms_of.nd rfl (.inl rfl) (pe_lst pa_nil))
     (pss_cons (ps_for PassesOwn.never rfl (pi_list (pe_call G_pairs_of (hr.mono (by decide)) (by rfl) D_pairs_of.g D_pairs_of.F.kp D_pairs_of.b .nil pass0 (pa_cons (pv 0) pa_nil))) (pg_name (i := 5) sc_rooms_of.nd rfl (.inl rfl))
     (pss_cons (ps_if (pt_val (pe_call G_is_held (hr.mono (by decide)) (by rfl) D_is_held.g D_is_held.F.kp D_is_held.b .nil pass0 (pa_cons (pv 3) (pa_cons (pv 5) pa_nil))))
     (pss_one (ps_continue))
     (pss_nil))
     (pss_cons (ps_set (i := 6) sc_rooms_of.nd rfl (.inl rfl) (pe_call G_push_tie (hr.mono (by decide)) (by rfl) D_push_tie.g D_push_tie.F.kp D_push_tie.b .nil pass0 (pa_cons (pe_call G_with_tie (hr.mono (by decide)) (by rfl) D_with_tie.g D_with_tie.F.kp D_with_tie.b .nil pass0 (pa_cons (pv 0) (pa_cons (pe_ix (ix_tupK (K := K)) (pv 5) (pe_int) (fun _ _ => rfl)) (pa_cons (pe_ix (ix_tupK (K := K)) (pv 5) (pe_int) (fun _ _ => rfl)) pa_nil)))) (pa_cons (pv 1) (pa_cons (pe_op (catU (K := K)) (pv 2) (pe_tup (pa_cons (pe_non) pa_nil))) (pa_cons (pe_callB (lenK (K := K)) (by rfl) T.b_len PySem.boot_len (pa_cons (pv 2) pa_nil)) pa_nil))))))
     (pss_one (ps_if (pt_cmpR op_eq (pe_ix (ix_tupK (K := K)) (pv 6) (pe_int) (fun _ _ => rfl)) (pe_str) (nomark _))
     (pss_one (ps_expr (pe_bm PySem.F.plainAttrs_list PySem.F.slot_list_append PySem.F.type_list_append mt_append (pv 4) (pa_cons (pe_tup (pa_cons (pv 5) (pa_cons (pe_ix (ix_tupK (K := K)) (pv 6) (pe_int) (fun _ _ => rfl)) pa_nil))) pa_nil))))
     (pss_one (ps_expr (pe_bm PySem.F.plainAttrs_list PySem.F.slot_list_append PySem.F.type_list_append mt_append (pv 3) (pa_cons (pe_ix (ix_tupK (K := K)) (pv 6) (pe_int) (fun _ _ => rfl)) pa_nil)))))))))
     (pss_one (ps_ret (pe_tup (pa_cons (pe_callTy (tupleK (K := K)) (by rfl) T.b_tuple (by decide +kernel) (pa_cons (pv 3) pa_nil)) (pa_cons (pe_callTy (tupleK (K := K)) (by rfl) T.b_tuple (by decide +kernel) (pa_cons (pv 4) pa_nil)) pa_nil)))))))), ?_⟩
  have LB := line_big
  obtain ⟨tw, w0, rs, rfl, htw, hw0, hT⟩ := id W
  have hwl := hL.len
  refine ⟨_, rfl, .ref tw, n, ts, rfl, W, hn1, hlen, false, rfl, iteF ?_⟩
  refine ⟨by show 0 ≤ sizeLine; decide, fun l nl => ⟨by show 0 ≤ sizeLine; decide, fun r nr => ?_⟩⟩
  have k0 : Ke H (upd (upd H l (.lst [])) r (.lst [])) := (Ke.new nl).trans (Ke.new nr)
  have gr0 : (upd (upd H l (.lst [])) r (.lst [])) r = some (.lst []) := upd_same
  have gl0 : (upd (upd H l (.lst [])) r (.lst [])) l = some (.lst []) := lst_new nr upd_same
  have nrl : r ≠ l := fun e => by
    rw [e, upd_same] at nr
    cases nr
  have nrH : H r = none := (Ke.new (S := fun _ => False) (o := .lst []) nl).dom _ nr
  generalize upd (upd H l (.lst [])) r (.lst []) = H0 at *
  refine ⟨_, rfl, .ref tw, n, ts, rfl, W.ke k0, by omega, hn1, fun H1 pl k1 npl hTL => ?_⟩
  obtain ⟨prs, gpl, hPr⟩ := hTL
  have gl1 := k1.lst gl0
  have gr1 := k1.lst gr0
  have plH : H pl = none := k0.dom _ npl
  have npl1 : pl ≠ l := fun e => by
    rw [e, gl0] at npl
    cases npl
  have npl2 : pl ≠ r := fun e => by
    rw [e, gr0] at npl
    cases npl
  have hpl := hPr.length
  have hpl16 := pairsL_length hn1
  refine ⟨pl, rfl, ⟨_, sqL_of gpl⟩, ?_⟩
  refine for_list (K := K) (a := pl) (xs := prs) (fun j σ G => ∃ (y5 y6 : Option V) (xs ys : List V) (lots : List (List Int)) (rows : List ((Int × Int) × List (Int × Int))), σ = [some (.ref tw), some (.int k), some (.ref u), some (.ref l), some (.ref r), y5, y6] ∧ Ke H G ∧ G pl = some (.lst prs) ∧ Ties G prs (pairsL n) ∧ G l = some (.lst xs) ∧ Lots G xs lots ∧ G r = some (.lst ys) ∧ RowsH G ys rows ∧ xs.length ≤ j ∧ ys.length ≤ j ∧ RoomI ts n k ws ((pairsL n).take j) lots rows) ⟨_, _, [], [], [], [], rfl, k0.trans k1, gpl, hPr, gl1, .nil, gr1, .nil, Nat.le_refl _, Nat.le_refl _, .nil⟩ (fun j σ G _ hG => ?_) (fun j x σ G hx hG => ?_) (fun σ G hG => ?_)
  · obtain ⟨_, _, _, _, _, _, _, _, g, _⟩ := hG
    exact sqL_of g
  · obtain ⟨y5, y6, xs, ys, lots, rows, rfl, kG, gp, hP, gl, hLo, gr, hRo, hx1, hy1, hI⟩ := hG
    obtain ⟨⟨a, b⟩, q', hab, rfl, gq⟩ := hP.get hx
    obtain ⟨a0, a1, b1⟩ := pairs_mem.mp (List.mem_of_getElem? hab)
    dsimp only at a0 a1 b1 gq
    have tG := hT0.kx kG
    have etk := take_next hab
    have hj : j < prs.length := (List.getElem?_eq_some_iff.mp hx).1
    refine ⟨_, rfl, _, rfl, l, q', xs, lots, a, b, rfl, gl, hLo, gq, tG, fun G1 k2 => ⟨_, rfl, iteB (fun hh => ?_) (fun hh => ?_)⟩⟩
    · exact ⟨_, _, xs, ys, lots, rows, rfl, kG.trans k2, k2.lst gp, hP.ke k2, k2.lst gl, hLo.ke k2, k2.lst gr, hRo.ke k2, by omega, by omega, by rw [etk]; exact hI.held hh⟩
    have W1 := (W.ke kG).ke k2
    have gq1 := k2.tup gq
    refine ⟨_, rfl, _, rfl, q', _, 0, _, rfl, rfl, sqT_of gq1, atI_nat (j := 0) rfl, _, rfl, q', _, 1, _, rfl, rfl, sqT_of gq1, atI_nat (j := 1) rfl, ?_⟩
    refine ⟨.ref tw, n, ts, a, b, rfl, W1, by omega, hlen, fun G2 v2 k3 W2 => ?_⟩
    rw [if_neg (show ¬ b < a by omega), if_pos (show b > a by omega)] at W2
    have ku := (kG.trans k2).trans k3
    have hu2 := Ke.tup ku hu
    refine ⟨_, rfl, _, rfl, by show 1 ≤ sizeLine; decide, fun z nz => ?_⟩
    have kz := Ke.new (S := fun _ => False) (o := .tup [.non]) nz
    refine ⟨u, z, ws, [.non], rfl, rfl, Ke.tup kz hu2, upd_same, by show ws.length + 1 ≤ sizeLine; omega, fun c G3 k4 hc => ?_⟩
    have k34 := kz.trans k4
    refine ⟨_, rfl, u, _, rfl, .inr (sqT_of (Ke.tup k34 hu2)), ?_⟩
    have hLs : LayK (ts ++ [(a, b)]) k (ws ++ [.non]) := hL.snocN
    have hoks : TOk n (ts ++ [(a, b)]) := TOk.append hok (TOk.one a0 a1 b1)
    refine ⟨v2, n, ts ++ [(a, b)], k, c, ws ++ [.non], ws.length, rfl, W2.ke k34, hc, hLs, hoks, hn0, by omega, by rw [List.length_append]; show ts.length + 1 ≤ 120; omega, hk0, hk1, by rw [List.length_append]; show ws.length < ts.length + 1; omega, by rw [List.getElem?_append_right (Nat.le_refl _), Nat.sub_self]; rfl, hT0.kx (ku.trans k34), fun G4 t k5 hTo => ?_⟩
    have k25 := k2.trans (k3.trans (k34.trans k5))
    have kG4 : Ke H G4 := kG.trans k25
    have gp4 := Ke.lst k25 gp
    have hP4 := hP.ke k25
    have gl4 := Ke.lst k25 gl
    have hL4 := hLo.ke k25
    have gr4 := Ke.lst k25 gr
    have hR4 := hRo.ke k25
    have gq4 := Ke.tup k25 gq
    rw [hwl] at hTo
    rcases hTo with ⟨rr, cc, xr, e, es, lv, h1, h2, h3, h4, h5⟩ | ⟨cc, lf, R, h1, h2, h3⟩
    · refine ⟨_, rfl, t, _, 0, _, rfl, rfl, sqT_of h1, atI_nat (j := 0) rfl, rfl, _, rfl, iteT ?_⟩
      refine ⟨_, rfl, .inl ⟨rfl, _, sqL_of gr4⟩, _, rfl, _, rfl, t, _, 1, _, rfl, rfl, sqT_of h1, atI_nat (j := 1) rfl, by show 2 ≤ sizeLine; decide, fun zt nzt => ?_⟩
      have kt := Ke.new (S := fun _ => False) (o := .tup [.ref q', .ref rr]) nzt
      have gr5 := Ke.lst kt gr4
      have gl5 := Ke.lst kt gl4
      have gp5 := Ke.lst kt gp4
      have hR5 := (hR4.ke kt).append (RowsH.one (x := ((a, b), e :: es)) upd_same (Ke.tup kt gq4) (Ke.tup kt h2) (h3.ke kt))
      refine ⟨r, ys, _, rfl, rfl, gr5, by omega, ?_⟩
      refine ⟨_, _, xs, _, lots, _, rfl, (kG4.trans kt).over nrH, by rw [upd_ne npl2]; exact gp5, (hP4.ke kt).put gr5, by rw [upd_ne nrl.symm]; exact gl5, (hL4.ke kt).put gr5, upd_same, hR5.put gr5, by omega, by rw [List.length_append]; show ys.length + 1 ≤ j + 1; omega, by rw [etk]; exact hI.laid hh h5⟩
    · refine ⟨_, rfl, t, _, 0, _, rfl, rfl, sqT_of h1, atI_nat (j := 0) rfl, rfl, _, rfl, iteF ?_⟩
      refine ⟨_, rfl, .inl ⟨rfl, _, sqL_of gl4⟩, _, rfl, t, _, 1, _, rfl, rfl, sqT_of h1, atI_nat (j := 1) rfl, ?_⟩
      refine ⟨l, xs, _, rfl, rfl, gl4, by omega, ?_⟩
      refine ⟨_, _, _, ys, _, rows, rfl, kG4.over nl, by rw [upd_ne npl1]; exact gp4, hP4.put gl4, upd_same, (hL4.append (Lots.one h2)).put gl4, by rw [upd_ne nrl]; exact gr4, hR4.put gl4, by rw [List.length_append]; show xs.length + 1 ≤ j + 1; omega, by omega, by rw [etk]; exact hI.full hh h3⟩
  · obtain ⟨y5, y6, xs, ys, lots, rows, rfl, kG, gp, hP, gl, hLo, gr, hRo, hx1, hy1, hI⟩ := hG
    rw [hpl, List.take_length] at hI
    refine ⟨_, rfl, l, xs, rfl, .inl ⟨sqL_of gl, fun p1 np1 => ⟨_, rfl, r, ys, rfl, .inl ⟨sqL_of (lst_new np1 gr), fun p2 np2 => ⟨by show 2 ≤ sizeLine; decide, fun z nz => ?_⟩⟩⟩⟩⟩
    have k1 := Ke.new (S := fun _ => False) (o := .tup xs) np1
    have k2 := Ke.new (S := fun _ => False) (o := .tup ys) np2
    have k3 := Ke.new (S := fun _ => False) (o := .tup [.ref p1, .ref p2]) nz
    have k13 := k1.trans (k2.trans k3)
    exact q _ z lots rows (kG.trans k13) ⟨p1, p2, xs, ys, upd_same, Ke.tup (k2.trans k3) upd_same, hLo.ke k13, Ke.tup k3 upd_same, hRo.ke k13⟩ hI
theorem ok_brims_of {P : Program} {w : World} {K : PySem.W.Frag} {mg : Str → Option Value} {base : Heap} {tb : List Addr} {f : Addr} {fd : FuncData} {f_pieces_of : Addr} {fd_pieces_of : FuncData} {f_rooms_of : Addr} {fd_rooms_of : FuncData} (T : Blt mg) (D_brims_of : DefAt K mg "brims_of" s_brims_of ["web", "k", "laying"] f fd) (D_pieces_of : DefAt K mg "pieces_of" s_pieces_of ["web"] f_pieces_of fd_pieces_of) (G_pieces_of : FnOk P w K mg base CX0 7 f_pieces_of fd_pieces_of ["web"] (sp_pieces_of K tb)) (D_rooms_of : DefAt K mg "rooms_of" s_rooms_of ["web", "k", "laying"] f_rooms_of fd_rooms_of) (G_rooms_of : FnOk P w K mg base CX0 9 f_rooms_of fd_rooms_of ["web", "k", "laying"] (sp_rooms_of K tb)) {c Pt : Addr} (TB : LamX.TabB base mg c Pt) (hcd : fd.code = .ref c) (hPt : Pt ∈ tb) :
    FnOk P w K mg base CX0 10 f fd ["web", "k", "laying"] (sp_brims_of K tb) := by
  refine D_brims_of.ok sc_brims_of (fun vs H Q E h => by
    obtain ⟨v, n, ts, k, u, ws, rfl, W, hok, hn0, hn1, hlen, hk0, hk1, hu, hL, hT0, q⟩ := h
    all_goals rfl) fun A outer s H vs Q E hr h => ?_
  obtain ⟨v, n, ts, k, u, ws, rfl, W, hok, hn0, hn1, hlen, hk0, hk1, hu, hL, hT0, q⟩ := h
  refine ⟨_, pss_cons (ps_set (i := 3) sc_brims_of.nd rfl (.inl rfl) (pe_ix (ix_tupK (K := K)) (pe_call G_rooms_of (hr.mono (by decide)) (by rfl) D_rooms_of.g D_rooms_of.F.kp D_rooms_of.b .nil pass0 (pa_cons (pv 0) (pa_cons (pv 1) (pa_cons (pv 2) pa_nil)))) (pe_int) (fun _ _ => rfl)))
     (pss_cons (ps_set (i := 4) sc_brims_of.nd rfl (.inl rfl) (pe_tuple2 (k := 0) (vs := [0, 1]) (vs1 := [1]) (hr.mono (by decide)) (by rfl) T.b_tuple TB hcd (gxs_of (XN := nm_brims_of) (xsc := defScope s_brims_of) (N := ["lot", "point"]) (src := [none, none]) (by decide +kernel)) (pi_tup (pv 3)) ⟨fun _ _ _ _ _ _ => pg_name (i := 0) gnd_brims_of_0 rfl (.inl rfl), fun _ _ _ _ _ _ hz => (pi_tupK (K := K)) (pe_slice (sl_tupU (K := K)) (pv 0) (po_some (pe_int)) po_none), fun _ _ _ _ _ _ => pg_name (i := 1) gnd_brims_of_0 rfl (.inl rfl), fun _ _ _ _ _ _ hz => pe_tup (pa_cons (pe_ix (ix_tupK (K := K)) (pv 0) (pe_int) (fun _ _ => rfl)) (pa_cons (pv 1) pa_nil))⟩ (by decide)))
     (pss_one (ps_ret (pe_tuple (k := 0) (vs := [0]) (hr.mono (by decide)) (by rfl) T.b_tuple TB hcd (gxs_of (XN := nm_brims_of) (xsc := defScope s_brims_of) (N := ["piece"]) (src := [none]) (by decide +kernel)) (pi_tup (pe_call G_pieces_of (hr.mono (by decide)) (by rfl) D_pieces_of.g D_pieces_of.F.kp D_pieces_of.b .nil pass0 (pa_cons (pe_tup (pa_cons (pe_ix (ix_tupK (K := K)) (pv 0) (pe_int) (fun _ _ => rfl)) (pa_cons (pv 4) pa_nil))) pa_nil))) ⟨fun _ _ _ _ _ _ => pg_name (i := 0) gnd_brims_of_1 rfl (.inl rfl), fun _ _ _ _ _ _ hz => pts_one (pt_cmpR op_gt (pe_callB (lenK (K := K)) (by rfl) T.b_len PySem.boot_len (pa_cons (pv 0) pa_nil)) (pe_int) (nomark _)), fun _ _ _ _ _ _ hz => pv 0⟩)))), ?_⟩
  have LB := line_big
  obtain ⟨tw, w0, rs, rfl, htw, hw0, hT⟩ := id W
  refine ⟨_, rfl, _, rfl, _, rfl, .ref tw, n, ts, k, u, ws, rfl, W, hok, hn0, hn1, hlen, hk0, hk1, hu, hL, hT0, fun H1 x lots rows k1 hD hI => ?_⟩
  obtain ⟨l, r, xs, ys, hx, hl, hLo, _, _⟩ := hD
  refine ⟨x, _, 0, _, rfl, rfl, sqT_of hx, atI_nat (j := 0) rfl, ?_⟩
  have T1 := hT0.kx k1
  refine ⟨_, rfl, l, rfl, ⟨_, sqT_of hl⟩, T1 _ hPt, fun H2 htb => ?_⟩
  have k2 := k1.trans (Ke.tabd (T1 _ hPt) htb)
  have hlots := hI.tight hL
  have hLn : ∀ ls ∈ lots, Lot n ls := fun ls h => (hlots ls h).lot
  have hlen16 : ∀ ls ∈ lots, ls.length ≤ 16 := fun ls h => by
    have := (hLn ls h).le
    omega
  have hfew := hI.few.1
  have hpl := pairsL_length hn1
  have hjl := joins_len (m := 16) hlen16
  have hl2 := Ke.tup (Ke.tabd (T1 _ hPt) htb) hl
  have hLo2 := hLo.ke (Ke.tabd (T1 _ hPt) htb)
  have hxl := hLo.length
  refine gy_out (walk_tup (K := K) (a := l) (xs := xs)) (fun i => ((lots.drop i).map fun l => l.length + 1).sum) (fun i as G => Ke H2 G ∧ Ties G as (joinsF (lots.take i))) ⟨.refl, .nil⟩ (fun i as G _ hG => sqT_of (hG.1.tup hl2)) (fun i y as G G' hi hG hy => ?_) (fun as G hG => ?_)
  · obtain ⟨kG, hA⟩ := hG
    obtain ⟨rfl, hy⟩ := hy
    obtain ⟨ls, q1, els, rfl, hq1⟩ := hLo2.get hy
    have hq1' := kG.tup hq1
    have hmem := List.mem_of_getElem? els
    have hls16 := hlen16 ls hmem
    have hAl := hA.length
    have hjt := joins_len (m := 16) (lots := lots.take i) fun l h => hlen16 l (List.mem_of_mem_take h)
    rw [List.length_take] at hjt
    obtain ⟨h0, r0, rfl⟩ : ∃ a r, ls = a :: r := by
      cases ls with
      | nil => exact absurd rfl (hLn _ hmem).ne
      | cons a r => exact ⟨a, r, rfl⟩
    refine ⟨rfl, _, rfl, _, rfl, q1, _, rfl, hq1', fun c G2 kc hc => ?_⟩
    rw [cut_from' _ (by decide : (0 : Int) ≤ 1)] at hc
    have hc : G2 c = some (.tup (r0.map V.int)) := hc
    refine ⟨c, rfl, ⟨_, sqT_of hc⟩, ?_⟩
    have hil : i < lots.length := by omega
    have hM : ((lots.drop i).map fun l => l.length + 1).sum = (r0.length + 1 + 1) + ((lots.drop (i + 1)).map fun l => l.length + 1).sum := by
      rw [List.drop_eq_getElem_cons hil, List.map_cons, List.sum_cons]
      rw [List.getElem?_eq_getElem hil] at els
      rw [Option.some.inj els, List.length_cons]
    refine gy_inn (walk_tup (K := K) (a := c) (xs := r0.map V.int)) (c := ((lots.drop (i + 1)).map fun l => l.length + 1).sum) (by rw [List.length_map]; omega) (fun j bs J => Ke G2 J ∧ Ties J bs (joinsF (lots.take i) ++ (r0.take j).map fun p => (h0, p))) ⟨.refl, by rw [List.take_zero, List.map_nil, List.append_nil]; exact hA.ke kc⟩ (fun j bs J _ hJ => sqT_of (hJ.1.tup hc)) (fun j z bs J J' hj hJ hz => ?_) (fun bs J hJ => ?_)
    · obtain ⟨kJ, hB⟩ := hJ
      obtain ⟨rfl, hz⟩ := hz
      obtain ⟨m, hm, rfl⟩ := int_at hz
      have hBl := hB.length
      rw [List.length_append, List.length_map, List.length_take] at hBl
      rw [List.length_cons] at hls16
      refine ⟨rfl, _, rfl, q1, _, 0, _, rfl, rfl, sqT_of (kJ.tup (kc.tup hq1')), atI_nat (j := 0) rfl, _, rfl, by show 2 ≤ sizeLine; decide, fun d nd => ?_⟩
      refine ⟨by omega, kJ.trans (Ke.new nd), ?_⟩
      rw [take_next hm, List.map_append, ← List.append_assoc]
      exact (hB.new nd).append (Ties.one upd_same)
    · obtain ⟨kJ, hB⟩ := hJ
      rw [List.length_map, List.take_length] at hB
      refine ⟨rfl, by omega, kG.trans (kc.trans kJ), ?_⟩
      rw [take_next els, joins_snoc]
      exact hB
  obtain ⟨kG, hA⟩ := hG
  rw [hxl, List.take_length] at hA
  have hAl := hA.length
  refine ⟨by omega, fun jn njn => ?_⟩
  have kj := kG.trans (Ke.new (o := .tup as) njn)
  have gj : (upd G jn (.tup as)) jn = some (.tup as) := upd_same
  have hA2 := hA.ke (Ke.new (S := fun _ => False) (o := .tup as) njn)
  generalize upd G jn _ = G2 at *
  have kA := k2.trans kj
  refine ⟨_, rfl, tw, _, 0, _, rfl, rfl, sqT_of (Ke.tup kA htw), atI_nat (j := 0) rfl, _, rfl, by show 2 ≤ sizeLine; decide, fun wb nwb => ?_⟩
  have kB := kA.trans (Ke.new (o := .tup [.int n, .ref jn]) nwb)
  have W3 : Web (upd G2 wb (.tup [.int n, .ref jn])) (.ref wb) n (joinsF lots) := ⟨wb, jn, as, rfl, upd_same, tup_new nwb gj, hA2.ke (Ke.new nwb)⟩
  generalize upd G2 wb _ = G3 at *
  have T3 := hT0.kx kB
  refine ⟨.ref wb, n, joinsF lots, rfl, W3, joins_ok hLn, by omega, by omega, by omega, T3, fun H4 pu prs k4 npu hpu hP => ?_⟩
  have T4 := T3.kx k4
  refine ⟨pu, rfl, ⟨_, sqT_of hpu⟩, T4 _ hPt, fun H5 htb5 => ?_⟩
  have k5 := Ke.tabd (T4 _ hPt) htb5
  have hpu5 := Ke.tup k5 hpu
  have hP5 := hP.ke k5
  have hPl := hP.length
  have hPn := pieces_len (g := foldR (fun x => x) (joinsF lots)) (n := n)
  refine gx_it (a0 := []) (walk_tup (K := K) (a := pu) (xs := prs)) (fun i bs G => Ke H5 G ∧ Lots G bs (((piecesF (foldR (fun x => x) (joinsF lots)) n).take i).filter fun l => decide (1 < l.length))) ⟨.refl, .nil⟩ (fun i bs G _ hG => sqT_of (hG.1.tup hpu5)) (fun i y bs G G' hi hG hy => ?_) (fun bs G hG => ?_)
  · obtain ⟨kG, hB⟩ := hG
    obtain ⟨rfl, hy⟩ := hy
    obtain ⟨ls, q1, els, rfl, hq1⟩ := hP5.get hy
    have hq1' := kG.tup hq1
    have hBl := hB.length
    have hfl := List.length_filter_le (fun l : List Int => decide (1 < l.length)) ((piecesF (foldR (fun x => x) (joinsF lots)) n).take i)
    rw [List.length_take] at hfl
    refine ⟨rfl, _, rfl, q1, _, rfl, .inr (sqT_of hq1'), _, _, rfl, rfl, _, rfl, ?_⟩
    rw [List.length_map]
    have ed : decide ((1 : Int) < (ls.length : Nat)) = decide (1 < ls.length) := decide_eq_decide.mpr ⟨fun h => by omega, fun h => by omega⟩
    rw [ed, take_next els, List.filter_append]
    by_cases hb : 1 < ls.length
    · rw [decide_eq_true hb]
      refine iteT ?_
      refine ⟨_, rfl, by omega, kG, ?_⟩
      rw [List.filter_cons_of_pos (by rw [decide_eq_true hb]), List.filter_nil]
      exact hB.append (Lots.one hq1')
    · rw [decide_eq_false hb]
      refine iteF ⟨kG, ?_⟩
      rw [List.filter_cons_of_neg (by rw [decide_eq_false hb]; decide), List.filter_nil, List.append_nil]
      exact hB
  obtain ⟨kG, hB⟩ := hG
  rw [hPl, List.take_length] at hB
  have hBl := hB.length
  have hfl := List.length_filter_le (fun l : List Int => decide (1 < l.length)) (piecesF (foldR (fun x => x) (joinsF lots)) n)
  refine ⟨by omega, fun z nz => ?_⟩
  exact q _ z bs lots rows ((kB.trans (k4.trans (k5.trans kG))).trans (Ke.new nz)) hI upd_same (hB.new nz)
theorem posM : (0 : Int) < 2305843009213693951 := by decide
theorem modM (x : Int) : 0 ≤ x % 2305843009213693951 ∧ x % 2305843009213693951 < 2305843009213693951 := ⟨Int.emod_nonneg _ (by decide), Int.emod_lt_of_pos _ (by decide)⟩
theorem ok__law_mixed {P : Program} {w : World} {K : PySem.W.Frag} {mg : Str → Option Value} {base : Heap} {tb : List Addr} {f : Addr} {fd : FuncData} (T : Blt mg) (D__law_mixed : DefAt K mg "_law_mixed" s_law_mixed ["_law_cell", "_law_k"] f fd) :
    FnOk P w K mg base CX0 1 f fd ["_law_cell", "_law_k"] (sp__law_mixed K tb) := by
  refine D__law_mixed.ok sc__law_mixed (fun vs H Q E h => by
    obtain ⟨c, k, rfl, hk0, hk1, q⟩ := h
    all_goals rfl) fun A outer s H vs Q E hr h => ?_
  obtain ⟨c, k, rfl, hk0, hk1, q⟩ := h
  refine ⟨_, pss_cons (ps_set (i := 2) sc__law_mixed.nd rfl (.inl rfl) (pe_op op_mod (pe_op op_add (pe_op op_add (pv 0) (pe_op op_mul (pe_op op_mul (pv 1) (pv 1)) (pe_int))) (pe_int)) (pe_int)))
     (pss_cons (ps_set (i := 2) sc__law_mixed.nd rfl (.inl rfl) (pe_op op_mod (pe_op op_mul (pv 2) (pv 2)) (pe_int)))
     (pss_cons (ps_set (i := 2) sc__law_mixed.nd rfl (.inl rfl) (pe_op op_mod (pe_op op_mul (pe_op op_add (pe_op op_add (pv 2) (pe_op op_mul (pv 1) (pe_int))) (pe_int)) (pe_int)) (pe_int)))
     (pss_one (ps_ret (pe_op op_fdiv (pe_op op_mod (pe_op op_mul (pv 2) (pv 2)) (pe_int)) (pe_int)))))), ?_⟩
  refine ⟨_, rfl, _, rfl, _, rfl, _, _, rfl, rfl, .inl ⟨by omega, by omega⟩, _, _, rfl, rfl, .inr ⟨by decide, by decide⟩, _, _, rfl, rfl, _, _, rfl, rfl, _, _, rfl, rfl, posM, ?_⟩
  obtain ⟨x0, x1⟩ := modM (c + k * k * 40503 + 12345)
  refine ⟨_, rfl, _, rfl, _, _, rfl, rfl, .inl ⟨by omega, by omega⟩, _, _, rfl, rfl, posM, ?_⟩
  obtain ⟨y0, y1⟩ := modM ((c + k * k * 40503 + 12345) % 2305843009213693951 * ((c + k * k * 40503 + 12345) % 2305843009213693951))
  generalize (c + k * k * 40503 + 12345) % 2305843009213693951 * ((c + k * k * 40503 + 12345) % 2305843009213693951) = y at *
  refine ⟨_, rfl, _, rfl, _, _, rfl, rfl, .inl ⟨by omega, by omega⟩, _, _, rfl, rfl, _, _, rfl, rfl, _, _, rfl, rfl, .inl ⟨by omega, by omega⟩, _, _, rfl, rfl, posM, ?_⟩
  obtain ⟨z0, z1⟩ := modM ((y % 2305843009213693951 + k * 7919 + 1) * 48271)
  refine ⟨_, rfl, _, rfl, _, _, rfl, rfl, .inl ⟨by omega, by omega⟩, _, _, rfl, rfl, posM, _, _, rfl, rfl, ⟨by decide, by decide⟩, ?_⟩
  exact q _ (Int.ediv_nonneg (Int.emod_nonneg _ (by decide)) (by decide))
theorem own_list (ns : List Int) : ∃ own : List Int, cutV (ns.map V.int) none (some 60) ++ (List.replicate (Int.toNat (if decide (V.int ((ns.map V.int).length : Int) = V.int 0) = true then 1 else 0)) [V.int 0]).flatten = own.map V.int ∧ 0 < own.length ∧ own.length ≤ 60 := by
  have e : cutV (ns.map V.int) none (some 60) = (ns.take 60).map V.int := by
    rw [show (some (60 : Int)) = some ((60 : Nat) : Int) from rfl, cut_to, List.map_take]
  rw [e]
  cases ns with
  | nil => exact ⟨[0], rfl, by decide, by decide⟩
  | cons x r =>
    have d : decide (V.int (((x :: r).map V.int).length : Int) = V.int 0) = false := decide_eq_false fun z => by
      have z := V.int.inj z
      rw [List.length_map, List.length_cons] at z
      omega
    rw [d]
    refine ⟨(x :: r).take 60, by simp, by simp, by rw [List.length_take]; omega⟩
theorem p1000 : (0 : Int) < 1000 := by decide
theorem ok__law_deck {P : Program} {w : World} {K : PySem.W.Frag} {mg : Str → Option Value} {base : Heap} {tb : List Addr} {f : Addr} {fd : FuncData} {f__law_mixed : Addr} {fd__law_mixed : FuncData} (T : Blt mg) (D__law_deck : DefAt K mg "_law_deck" s_law_deck ["_law_script", "_law_many"] f fd) (D__law_mixed : DefAt K mg "_law_mixed" s_law_mixed ["_law_cell", "_law_k"] f__law_mixed fd__law_mixed) (G__law_mixed : FnOk P w K mg base CX0 1 f__law_mixed fd__law_mixed ["_law_cell", "_law_k"] (sp__law_mixed K tb)) :
    FnOk P w K mg base CX0 2 f fd ["_law_script", "_law_many"] (sp__law_deck K tb) := by
  refine D__law_deck.ok sc__law_deck (fun vs H Q E h => by
    obtain ⟨a, ns, n, rfl, hS, hlen, hn0, hn1, q⟩ := h
    all_goals rfl) fun A outer s H vs Q E hr h => ?_
  obtain ⟨a, ns, n, rfl, hS, hlen, hn0, hn1, q⟩ := h
  refine ⟨_, pss_cons (ps_set (i := 2) sc__law_deck.nd rfl (.inl rfl) (pe_op op_cat (pe_callTy (listK (K := K)) (by rfl) T.b_list (by decide +kernel) (pa_cons (pe_slice (sl_listK (K := K)) (pv 0) po_none (po_some (pe_int))) pa_nil)) (pe_op op_rep (pe_lst (pa_cons (pe_int) pa_nil)) (pe_callTy call_int1 (by rfl) T.b_int (by decide +kernel) (pa_cons (pe_cmpR op_eq (pe_callB (lenK (K := K)) (by rfl) T.b_len PySem.boot_len (pa_cons (pv 0) pa_nil)) (pe_int) (nomark _)) pa_nil)))))
     (pss_cons (ps_setLc (i := 4) (own := [("_law_cell", 3)]) rfl sc__law_deck.nd rfl rfl (sw_true rfl rfl rfl (by decide +kernel)) (pi_list (pv 2)) (blkOk_by (own := [("_law_cell", 3)]) (N := nm__law_deck) (sc := defScope s_law_deck) (by decide +kernel)) (fun _ _ _ _ _ => pg_name (i := 3) sc__law_deck.nd rfl (.inl rfl)) (fun _ _ _ _ _ => pts_nil) (fun _ _ _ _ _ => pe_op op_mul (pv 3) (pe_callTy call_int1 (by rfl) T.b_int (by decide +kernel) (pa_cons (pe_cmpR op_ge (pv 3) (pe_op op_pow (pe_int) (pe_int)) (nomark _)) pa_nil))))
     (pss_cons (ps_set (i := 5) sc__law_deck.nd rfl (.inl rfl) (pe_lst pa_nil))
     (pss_cons (ps_for PassesOwn.never rfl (pi_range1 (by rfl) T.b_range (pa_cons (pv 1) pa_nil)) (pg_name (i := 6) sc__law_deck.nd rfl (.inl rfl))
     (pss_cons (ps_set (i := 7) sc__law_deck.nd rfl (.inl rfl) (pe_op op_mod (pv 6) (pe_callB (lenK (K := K)) (by rfl) T.b_len PySem.boot_len (pa_cons (pv 2) pa_nil))))
     (pss_one (ps_if (pt_cmpR op_gt (pe_ix (ix_listK (K := K)) (pv 4) (pv 7) (fun _ _ => rfl)) (pe_int) (nomark _))
     (pss_cons (ps_expr (pe_bm PySem.F.plainAttrs_list PySem.F.slot_list_append PySem.F.type_list_append mt_append (pv 5) (pa_cons (pe_op op_mod (pe_ix (ix_listK (K := K)) (pv 4) (pv 7) (fun _ _ => rfl)) (pe_int)) pa_nil)))
     (pss_one (ps_asg (pe_op op_fdiv (pe_ix (ix_listK (K := K)) (pv 4) (pv 7) (fun _ _ => rfl)) (pe_int)) (pg_sub (pv 4) (pv 7) set_list))))
     (pss_one (ps_expr (pe_bm PySem.F.plainAttrs_list PySem.F.slot_list_append PySem.F.type_list_append mt_append (pv 5) (pa_cons (pe_op op_mod (pe_call G__law_mixed (hr.mono (by decide)) (by rfl) D__law_mixed.g D__law_mixed.F.kp D__law_mixed.b .nil pass0 (pa_cons (pe_ix (ix_listK (K := K)) (pv 2) (pv 7) (fun _ _ => rfl)) (pa_cons (pe_op op_add (pv 6) (pe_int)) pa_nil))) (pe_int)) pa_nil))))))))
     (pss_one (ps_ret (pe_listRev rfl (by rfl) T.b_list (by rfl) T.b_reversed (pv 5))))))), ?_⟩
  -- own
  refine ⟨_, rfl, 60, rfl, a, _, rfl, hS, fun c nc => ?_⟩
  refine ⟨c, _, rfl, .inl (sqL_of upd_same), fun l nl => ?_⟩
  have k1 : Ke H (upd (upd H c (.lst (cutV (ns.map V.int) none (some 60)))) l (.lst (cutV (ns.map V.int) none (some 60)))) := (Ke.new nc).trans (Ke.new nl)
  have hl1 : (upd (upd H c (.lst (cutV (ns.map V.int) none (some 60)))) l (.lst (cutV (ns.map V.int) none (some 60)))) l = some (.lst (cutV (ns.map V.int) none (some 60))) := upd_same
  generalize (upd (upd H c (.lst (cutV (ns.map V.int) none (some 60)))) l (.lst (cutV (ns.map V.int) none (some 60)))) = Ha at *
  have hla : (ns.map V.int).length = ns.length := List.length_map ..
  refine ⟨by decide, fun z nz => ?_⟩
  refine ⟨_, rfl, a, _, rfl, .inl ((k1.trans (Ke.new nz)).seqL hS (fun z => z)), rfl, .inr ⟨_, rfl, ?_⟩⟩
  refine ⟨z, _, _, rfl, rfl, upd_same, by split <;> decide, by split <;> decide, by split <;> decide, fun r nr => ?_⟩
  have k2 : Ke Ha (upd (upd Ha z (.lst [.int 0])) r (.lst (List.replicate (Int.toNat (if decide (V.int ((ns.map V.int).length : Int) = V.int 0) then 1 else 0)) [V.int 0]).flatten)) := (Ke.new nz).trans (Ke.new nr)
  have hcl : (cutV (ns.map V.int) none (some 60)).length ≤ 63 := Nat.le_trans (cutV_length _ _ _) (by omega)
  obtain ⟨own, eown, hown0, hown1⟩ := own_list ns
  refine ⟨l, r, _, _, rfl, rfl, k2.lst hl1, upd_same, ?_, fun o no => ?_⟩
  · rw [← List.length_append, eown, List.length_map]
    have := line_big
    omega
  rw [eown]
  have k3 := (k1.trans k2).trans (Ke.new (S := fun _ => False) (o := .lst (own.map V.int)) no)
  have ho : upd (upd (upd Ha z (.lst [.int 0])) r (.lst (List.replicate (Int.toNat (if decide (V.int ((ns.map V.int).length : Int) = V.int 0) = true then 1 else 0)) [V.int 0]).flatten)) o (.lst (own.map V.int)) o = some (.lst (own.map V.int)) := upd_same
  generalize upd (upd (upd Ha z (.lst [.int 0])) r (.lst (List.replicate (Int.toNat (if decide (V.int ((ns.map V.int).length : Int) = V.int 0) = true then 1 else 0)) [V.int 0]).flatten)) o (.lst (own.map V.int)) = Hb at *
  -- rest
  refine ⟨_, rfl, o, rfl, ⟨_, sqL_of ho⟩, fun D hD => ?_⟩
  refine lc_list (K := K) (a := o) (xs := own.map V.int) (fun i G => ∃ rs : List Int, rs.length = i ∧ G = upd Hb D (.lst (rs.map V.int))) ⟨[], rfl, rfl⟩ (fun i G _ hG => ?_) (fun i x G hx hG => ?_) (fun G hG => ?_)
  · obtain ⟨rs, _, rfl⟩ := hG
    exact sqL_of (by rw [upd_ne (ne_of_none ho hD)]; exact ho)
  · obtain ⟨rs, hrs, rfl⟩ := hG
    obtain ⟨v, hv, rfl⟩ : ∃ v, own[i]? = some v ∧ x = .int v := by
      rw [List.getElem?_map] at hx
      cases e : own[i]? with
      | none => rw [e] at hx; cases hx
      | some v => rw [e] at hx; exact ⟨v, rfl, (Option.some.inj hx).symm⟩
    have hi : i < own.length := (List.getElem?_eq_some_iff.mp hv).1
    refine ⟨rfl, yes_ite ?_⟩
    refine ⟨_, rfl, _, rfl, _, _, rfl, rfl, ⟨by decide, by decide, by decide⟩, _, _, rfl, rfl, .inr ⟨_, rfl, _, _, rfl, rfl, .inr ⟨by split <;> decide, by split <;> decide⟩, _, upd_same, ?_, ?_⟩⟩
    · rw [List.length_map]
      have := line_big
      omega
    · rw [upd_upd]
      exact ⟨rs ++ [_], by rw [List.length_append, hrs]; rfl, by rw [List.map_append]; rfl⟩
  · obtain ⟨rs, hrs, rfl⟩ := hG
    rw [List.length_map] at hrs
    -- the deck
    have k4 := k3.over (o := .lst (rs.map V.int)) (k3.dom _ hD)
    have ho4 : upd Hb D (.lst (rs.map V.int)) o = some (.lst (own.map V.int)) := by rw [upd_ne (ne_of_none ho hD)]; exact ho
    refine ⟨Nat.zero_le _, fun p np => ?_⟩
    obtain ⟨npD, np0⟩ := upd_none np
    have nHD := k3.dom _ hD
    have nHp := k3.dom _ np0
    refine ⟨_, rfl, n, rfl, by omega, by omega, ?_⟩
    refine for_range (n := n.toNat) (fun i σ G => ∃ (y6 y7 : Option V) (ds rs : List Int), σ = [some (.ref a), some (.int n), some (.ref o), none, some (.ref D), some (.ref p), y6, y7] ∧ Ke H G ∧ G o = some (.lst (own.map V.int)) ∧ G D = some (.lst (rs.map V.int)) ∧ rs.length = own.length ∧ G p = some (.lst (ds.map V.int)) ∧ ds.length = i ∧ Dig ds)
      ⟨none, none, [], rs, rfl, k4.over nHp, by rw [upd_ne (ne_of_none ho4 np)]; exact ho4, by rw [upd_ne npD.symm, upd_same], hrs, upd_same, rfl, fun _ z => nomatch z⟩ (fun i σ G hi hG => ?_) (fun σ G hG => ?_)
    · obtain ⟨y6, y7, ds, rs, rfl, kG, go, gD, hrs, gp, hds, hdig⟩ := hG
      have m0 := emod_bds (0 + (i : Int)) (n := own.length) (by omega)
      have hol : ((own.map V.int).length : Int) = own.length := by rw [List.length_map]
      refine ⟨_, rfl, _, rfl, o, _, rfl, .inl (sqL_of go), _, _, rfl, rfl, by rw [hol]; omega, ?_⟩
      rw [hol]
      obtain ⟨v, _, _, ev⟩ := at_int (xs := rs) m0.1 (by rw [hrs]; exact m0.2)
      obtain ⟨u, _, _, eu⟩ := at_int (xs := own) m0.1 m0.2
      have npo : o ≠ p := ne_of_none ho4 np
      refine ⟨_, rfl, _, rfl, D, _, _, _, rfl, rfl, sqL_of gD, ev, _, _, rfl, rfl, _, rfl, ite2 (fun hc => ?_) (fun hc => ?_)⟩
      · have hv : 0 < v := of_decide_eq_true hc
        have d0 := emod_bds v (n := 1000) (by decide)
        refine ⟨_, rfl, .inl ⟨rfl, _, sqL_of gp⟩, _, rfl, _, rfl, D, _, _, _, rfl, rfl, sqL_of gD, ev, _, _, rfl, rfl, p1000, p, _, _, rfl, rfl, gp, ?_, ?_⟩
        · rw [List.length_map]
          have := line_big
          omega
        · have gD2 : upd G p (.lst (ds.map V.int ++ [.int (v % 1000)])) D = some (.lst (rs.map V.int)) := by rw [upd_ne npD.symm]; exact gD
          refine ⟨_, rfl, _, rfl, D, _, _, _, rfl, rfl, sqL_of gD2, ev, _, _, rfl, rfl, ⟨by decide, by decide⟩, _, rfl, _, rfl, D, _, _, _, rfl, rfl, gD2, ix_in m0.1 (by rw [List.length_map, hrs]; exact m0.2), ?_⟩
          refine ⟨_, _, ds ++ [v % 1000], rs.set ((0 + (i : Int)) % own.length).toNat (v / 1000), rfl, (kG.over nHp).over nHD, ?_, ?_, by rw [List.length_set]; exact hrs, ?_, by rw [List.length_append, hds]; rfl, ?_⟩
          · rw [upd_ne (ne_of_none ho hD), upd_ne npo]
            exact go
          · rw [upd_same, List.map_set]
          · rw [upd_ne npD, upd_same, List.map_append]
            rfl
          · intro d hd
            rcases List.mem_append.mp hd with hd | hd
            · exact hdig d hd
            · rw [List.mem_singleton.mp hd]
              exact d0
      · refine ⟨_, rfl, .inl ⟨rfl, _, sqL_of gp⟩, _, rfl, _, rfl, o, _, _, _, rfl, rfl, sqL_of go, eu, _, rfl, _, _, rfl, rfl, _, _, rfl, by omega, by omega, fun rr hr0 => ?_⟩
        have d0 := emod_bds rr (n := 1000) (by decide)
        refine ⟨_, _, rfl, rfl, p1000, p, _, _, rfl, rfl, gp, ?_, ?_⟩
        · rw [List.length_map]
          have := line_big
          omega
        · refine ⟨_, _, ds ++ [rr % 1000], rs, rfl, kG.over nHp, ?_, ?_, hrs, ?_, by rw [List.length_append, hds]; rfl, ?_⟩
          · rw [upd_ne npo]
            exact go
          · rw [upd_ne npD.symm]
            exact gD
          · rw [upd_same, List.map_append]
            rfl
          · intro d hd
            rcases List.mem_append.mp hd with hd | hd
            · exact hdig d hd
            · rw [List.mem_singleton.mp hd]
              exact d0
    · obtain ⟨y6, y7, ds, rs, rfl, kG, go, gD, hrs, gp, hds, hdig⟩ := hG
      refine ⟨_, rfl, p, _, rfl, sqL_of gp, fun e ne => ?_⟩
      exact q e _ (kG.dom _ ne) (kG.trans (Ke.new ne)) ⟨ds.reverse, by rw [upd_same, List.map_reverse], fun d hd => hdig d (List.mem_reverse.mp hd)⟩
theorem ok__law_next {P : Program} {w : World} {K : PySem.W.Frag} {mg : Str → Option Value} {base : Heap} {tb : List Addr} {f : Addr} {fd : FuncData} (T : Blt mg) (D__law_next : DefAt K mg "_law_next" s_law_next ["_law_deck_here"] f fd) :
    FnOk P w K mg base CX0 1 f fd ["_law_deck_here"] (sp__law_next K tb) := by
  refine D__law_next.ok sc__law_next (fun vs H Q E h => by
    obtain ⟨p, rfl, hd, q⟩ := h
    all_goals rfl) fun A outer s H vs Q E hr h => ?_
  obtain ⟨p, rfl, hd, q⟩ := h
  refine ⟨_, pss_cons (ps_if (pt_cmpR op_gt (pe_callB (lenK (K := K)) (by rfl) T.b_len PySem.boot_len (pa_cons (pv 0) pa_nil)) (pe_int) (nomark _))
     (pss_one (ps_ret (pe_bm0 PySem.F.plainAttrs_list PySem.F.slot_list_pop PySem.F.type_list_pop mt_pop (pv 0))))
     (pss_nil))
     (pss_one (ps_ret (pe_int))), ?_⟩
  obtain ⟨ds, hp, hg⟩ := id hd
  refine ⟨_, rfl, p, ds.map V.int, rfl, .inl (sqL_of hp), _, _, rfl, rfl, _, rfl, ite2 (fun e => ?_) (fun e => ?_)⟩
  · have hl : 0 < ds.length := by
      have h0 := of_decide_eq_true e
      rw [List.length_map] at h0
      omega
    have hlast : (ds.map V.int)[(ds.map V.int).length - 1]? = some (.int ds[ds.length - 1]) := by
      rw [List.length_map, List.getElem?_map, List.getElem?_eq_getElem (by omega)]
      rfl
    refine ⟨_, rfl, .inl ⟨rfl, _, sqL_of hp⟩, p, ds.map V.int, _, rfl, rfl, hp, hlast, ?_⟩
    have hm : ds[ds.length - 1] ∈ ds := List.getElem_mem _
    refine q _ _ (hg _ hm).1 (hg _ hm).2 ⟨Ke.put hp (fun _ z => nomatch z), ds.dropLast, ?_, fun d h => hg d (List.dropLast_subset _ h)⟩
    rw [upd_same, List.map_dropLast]
  · exact q 0 H (by decide) (by decide) (.refl hd)
theorem tie_ne {a r n : Int} (hn : 2 ≤ n) (a0 : 0 ≤ a) (a1 : a < n) (r0 : 0 ≤ r) (r1 : r < n - 1) : (a + 1 + r) % n ≠ a := by
  intro h
  by_cases c : a + 1 + r < n
  · rw [Int.emod_eq_of_lt (by omega) c] at h
    omega
  · have e : (a + 1 + r) % n = a + 1 + r - n := by
      rw [← Int.sub_emod_right, Int.emod_eq_of_lt (by omega) (by omega)]
    omega
theorem ok__law_tie {P : Program} {w : World} {K : PySem.W.Frag} {mg : Str → Option Value} {base : Heap} {tb : List Addr} {f : Addr} {fd : FuncData} {f__law_next : Addr} {fd__law_next : FuncData} (T : Blt mg) (D__law_tie : DefAt K mg "_law_tie" s_law_tie ["_law_deck_here", "_law_points"] f fd) (D__law_next : DefAt K mg "_law_next" s_law_next ["_law_deck_here"] f__law_next fd__law_next) (G__law_next : FnOk P w K mg base CX0 1 f__law_next fd__law_next ["_law_deck_here"] (sp__law_next K tb)) :
    FnOk P w K mg base CX0 2 f fd ["_law_deck_here", "_law_points"] (sp__law_tie K tb) := by
  refine D__law_tie.ok sc__law_tie (fun vs H Q E h => by
    obtain ⟨p, n, rfl, hd, hn, q⟩ := h
    all_goals rfl) fun A outer s H vs Q E hr h => ?_
  obtain ⟨p, n, rfl, hd, hn, q⟩ := h
  refine ⟨_, pss_cons (ps_set (i := 2) sc__law_tie.nd rfl (.inl rfl) (pe_op op_mod (pe_call G__law_next (hr.mono (by decide)) (by rfl) D__law_next.g D__law_next.F.kp D__law_next.b .nil pass0 (pa_cons (pv 0) pa_nil)) (pv 1)))
     (pss_cons (ps_set (i := 3) sc__law_tie.nd rfl (.inl rfl) (pe_op op_mod (pe_op op_add (pe_op op_add (pv 2) (pe_int)) (pe_op op_mod (pe_call G__law_next (hr.mono (by decide)) (by rfl) D__law_next.g D__law_next.F.kp D__law_next.b .nil pass0 (pa_cons (pv 0) pa_nil)) (pe_op op_sub (pv 1) (pe_int)))) (pv 1)))
     (pss_one (ps_ret (pe_tup (pa_cons (pe_callB (call_min2 rfl) (by rfl) T.b_min (by decide +kernel) (pa_cons (pv 2) (pa_cons (pv 3) pa_nil))) (pa_cons (pe_callB (call_max2 rfl) (by rfl) T.b_max (by decide +kernel) (pa_cons (pv 2) (pa_cons (pv 3) pa_nil))) pa_nil)))))), ?_⟩
  refine ⟨_, rfl, p, rfl, hd, fun r1 H1 a0 a1 k1 => ?_⟩
  refine ⟨_, rfl, _, _, rfl, rfl, by omega, ?_⟩
  have b0 : 0 ≤ r1 % n := Int.emod_nonneg _ (by omega)
  have b1 : r1 % n < n := Int.emod_lt_of_pos _ (by omega)
  refine ⟨_, rfl, _, _, rfl, rfl, _, rfl, p, rfl, k1.d, fun r2 H2 c0 c1 k2 => ?_⟩
  refine ⟨_, rfl, _, _, rfl, rfl, _, _, rfl, rfl, by omega, _, _, rfl, rfl, _, rfl, _, _, rfl, rfl, by omega, ?_⟩
  have e0 : 0 ≤ r2 % (n - 1) := Int.emod_nonneg _ (by omega)
  have e1 : r2 % (n - 1) < n - 1 := Int.emod_lt_of_pos _ (by omega)
  have hne := tie_ne hn b0 b1 e0 e1
  have d0 : 0 ≤ (r1 % n + 1 + r2 % (n - 1)) % n := Int.emod_nonneg _ (by omega)
  have d1 : (r1 % n + 1 + r2 % (n - 1)) % n < n := Int.emod_lt_of_pos _ (by omega)
  refine ⟨_, rfl, _, rfl, _, _, rfl, _, rfl, _, rfl, _, _, rfl, by show 2 ≤ sizeLine; decide, fun t ht => ?_⟩
  exact q _ _ t H2 (by split <;> omega) (by split <;> split <;> omega) (by split <;> omega) (k1.trans k2) ht
theorem ok__law_any_web {P : Program} {w : World} {K : PySem.W.Frag} {mg : Str → Option Value} {base : Heap} {tb : List Addr} {f : Addr} {fd : FuncData} {f__law_next : Addr} {fd__law_next : FuncData} {f__law_tie : Addr} {fd__law_tie : FuncData} (T : Blt mg) (D__law_any_web : DefAt K mg "_law_any_web" s_law_any_web ["_law_deck_here", "_law_points", "_law_most"] f fd) (D__law_next : DefAt K mg "_law_next" s_law_next ["_law_deck_here"] f__law_next fd__law_next) (G__law_next : FnOk P w K mg base CX0 1 f__law_next fd__law_next ["_law_deck_here"] (sp__law_next K tb)) (D__law_tie : DefAt K mg "_law_tie" s_law_tie ["_law_deck_here", "_law_points"] f__law_tie fd__law_tie) (G__law_tie : FnOk P w K mg base CX0 2 f__law_tie fd__law_tie ["_law_deck_here", "_law_points"] (sp__law_tie K tb)) :
    FnOk P w K mg base CX0 3 f fd ["_law_deck_here", "_law_points", "_law_most"] (sp__law_any_web K tb) := by
  refine D__law_any_web.ok sc__law_any_web (fun vs H Q E h => by
    obtain ⟨p, n, m, rfl, hd, hn0, hn1, hm0, hm1, q⟩ := h
    all_goals rfl) fun A outer s H vs Q E hr h => ?_
  obtain ⟨p, n, m, rfl, hd, hn0, hn1, hm0, hm1, q⟩ := h
  refine ⟨_, pss_cons (ps_set (i := 3) sc__law_any_web.nd rfl (.inl rfl) (pe_lst pa_nil))
     (C8.pss_cut (ps_if (pt_cmpR op_gt (pv 1) (pe_int) (nomark _))
     (pss_one (ps_setLc (i := 3) (own := [("_law_k", 4)]) rfl sc__law_any_web.nd rfl rfl (sw_true rfl rfl rfl (by decide +kernel)) (pi_range1 (by rfl) T.b_range (pa_cons (pe_op op_mod (pe_call G__law_next (hr.mono (by decide)) (by rfl) D__law_next.g D__law_next.F.kp D__law_next.b .nil pass0 (pa_cons (pv 0) pa_nil)) (pe_op op_add (pv 2) (pe_int))) pa_nil)) (blkOk_by (own := [("_law_k", 4)]) (N := nm__law_any_web) (sc := defScope s_law_any_web) (by decide +kernel)) (fun _ _ _ _ _ => pg_name (i := 4) sc__law_any_web.nd rfl (.inl rfl)) (fun _ _ _ _ _ => pts_nil) (fun _ _ _ _ _ => pe_call G__law_tie (hr.mono (by decide)) (by rfl) D__law_tie.g D__law_tie.F.kp D__law_tie.b .nil pass0 (pa_cons (pv 0) (pa_cons (pv 1) pa_nil)))))
     (pss_nil))
     (pss_one (ps_ret (pe_tup (pa_cons (pv 1) (pa_cons (pe_callTy (tupleK (K := K)) (by rfl) T.b_tuple (by decide +kernel) (pa_cons (pv 3) pa_nil)) pa_nil)))))), ?_⟩
  refine ⟨Nat.zero_le _, fun l nl => ?_⟩
  have k0 : Dk p H (upd H l (.lst [])) := (Dk.refl hd).new nl
  refine ⟨fun σ G => ∃ (y : Option V) (l' : Addr) (ts : List (Int × Int)), σ = [some (.ref p), some (.int n), some (.int m), some (.ref l'), y] ∧ Dk p H G ∧ TL G l' ts ∧ (ts.length : Int) ≤ m ∧ TOk n ts ∧ (n = 1 → ts = []), ?_, fun σ G hG => ?_⟩
  · refine ⟨_, rfl, _, _, rfl, rfl, _, rfl, ite2 (fun e => ?_) (fun e => ?_)⟩
    · have hn : 2 ≤ n := by
        have := of_decide_eq_true e
        omega
      refine ⟨_, rfl, p, rfl, k0.d, fun r H1 r0 r1 k1 => ?_⟩
      have e1 := emod_bds r (n := m + 1) (by omega)
      refine ⟨_, rfl, _, _, rfl, rfl, _, _, rfl, rfl, by omega, _, rfl, by omega, by omega, fun D hD => ?_⟩
      have k01 := k0.trans k1
      have nD := k01.k.dom _ hD
      refine lc_range (lo := 0) (n := (r % (m + 1)).toNat) (fun i G => ∃ (rs : List V) (ts : List (Int × Int)), G D = some (.lst rs) ∧ Ties G rs ts ∧ ts.length = i ∧ TOk n ts ∧ Dk p H G) ⟨[], [], upd_same, .nil, rfl, TOk.nil, k01.over hd nD⟩ (fun i G hi hG => ?_) (fun G hG => ?_)
      · obtain ⟨rs, ts, gD, gT, hl, hok, kG⟩ := hG
        refine ⟨rfl, yes_ite ?_⟩
        refine ⟨_, rfl, _, rfl, p, n, rfl, kG.d, hn, fun a b t G1 a0 ab b1 kG1 nt => ?_⟩
        have nDp : D ≠ p := (hd.ne nD).symm
        have gD1 : G1 D = some (.lst rs) := kG1.lst gD nDp
        have gD2 : upd G1 t (.tup [.int a, .int b]) D = some (.lst rs) := by rw [upd_ne (ne_of_none gD1 nt)]; exact gD1
        refine ⟨rs, gD2, ?_, rs ++ [.ref t], ts ++ [(a, b)], upd_same, ((((gT.dk kG1 kG.d).new nt).append (Ties.one upd_same)).put gD2), by rw [List.length_append, hl]; rfl, hok.append (TOk.one a0 ab b1), ((kG.trans kG1).new nt).over hd nD⟩
        rw [gT.length, hl]
        have := line_big
        omega
      · obtain ⟨rs, ts, gD, gT, hl, hok, kG⟩ := hG
        exact ⟨_, D, ts, rfl, kG, ⟨rs, gD, gT⟩, by omega, hok, fun z => absurd z (by omega)⟩
    · exact ⟨_, l, [], rfl, k0, ⟨[], upd_same, .nil⟩, by simpa using hm0, TOk.nil, fun _ => rfl⟩
  · obtain ⟨y, l', ts, rfl, kG, ⟨rs, gl, gT⟩, hlen, hok, h1⟩ := hG
    refine ⟨_, rfl, _, rfl, l', _, rfl, .inl ⟨sqL_of gl, fun u nu => ?_⟩⟩
    refine ⟨by show 2 ≤ sizeLine; decide, fun t nt => ?_⟩
    refine q _ _ ts ((kG.new nu).new nt) ⟨t, u, rs, rfl, upd_same, ?_, (gT.new nu).new nt⟩ hlen hok h1
    rw [upd_ne (upd_none nt).1.symm, upd_same]
theorem ok__law_round {P : Program} {w : World} {K : PySem.W.Frag} {mg : Str → Option Value} {base : Heap} {tb : List Addr} {f : Addr} {fd : FuncData} (T : Blt mg) (D__law_round : DefAt K mg "_law_round" s_law_round ["_law_points"] f fd) :
    FnOk P w K mg base CX0 1 f fd ["_law_points"] (sp__law_round K tb) := by
  refine D__law_round.ok sc__law_round (fun vs H Q E h => by
    obtain ⟨n, rfl, hn0, hn1, q⟩ := h
    all_goals rfl) fun A outer s H vs Q E hr h => ?_
  obtain ⟨n, rfl, hn0, hn1, q⟩ := h
  refine ⟨_, pss_one (ps_ret (pe_op op_cat (pe_lc (own := [("_law_k", 1)]) rfl sc__law_round.nd (pi_range1 (by rfl) T.b_range (pa_cons (pe_op op_sub (pv 0) (pe_int)) pa_nil)) (blkOk_by (own := [("_law_k", 1)]) (N := nm__law_round) (sc := defScope s_law_round) (by decide +kernel)) (fun _ _ _ _ _ => pg_name (i := 1) sc__law_round.nd rfl (.inl rfl)) (fun _ _ _ _ _ => pts_nil) (fun _ _ _ _ _ => pe_tup (pa_cons (pv 1) (pa_cons (pe_op op_add (pv 1) (pe_int)) pa_nil)))) (pe_op op_rep (pe_lst (pa_cons (pe_tup (pa_cons (pe_int) (pa_cons (pe_op op_sub (pv 0) (pe_int)) pa_nil))) pa_nil)) (pe_callTy call_int1 (by rfl) T.b_int (by decide +kernel) (pa_cons (pe_cmpR op_gt (pv 0) (pe_int) (nomark _)) pa_nil))))), ?_⟩
  refine ⟨_, rfl, _, _, rfl, rfl, _, rfl, by omega, by omega, fun D hD => ?_⟩
  refine lc_range (lo := 0) (n := (n - 1).toNat) (fun i G => ∃ (rs : List V) (ts : List (Int × Int)), G D = some (.lst rs) ∧ Ties G rs ts ∧ ts.length = i ∧ TOk n ts ∧ Ke H G) ⟨[], [], upd_same, .nil, rfl, TOk.nil, Ke.new hD⟩ (fun i G hi hG => ?_) (fun G hG => ?_)
  · obtain ⟨rs, ts, gD, gT, hl, hok, kG⟩ := hG
    refine ⟨rfl, yes_ite ?_⟩
    refine ⟨_, rfl, _, rfl, _, _, rfl, rfl, by show 2 ≤ sizeLine; decide, fun t nt => ?_⟩
    have gD2 : upd G t (.tup [.int (0 + (i : Int)), .int (0 + (i : Int) + 1)]) D = some (.lst rs) := by rw [upd_ne (ne_of_none gD nt)]; exact gD
    refine ⟨rs, gD2, ?_, rs ++ [.ref t], ts ++ [(0 + (i : Int), 0 + (i : Int) + 1)], upd_same, (((gT.new nt).append (Ties.one upd_same)).put gD2), by rw [List.length_append, hl]; rfl, hok.append (TOk.one (by omega) (by omega) (by omega)), (kG.trans (Ke.new nt)).over hD⟩
    rw [gT.length, hl]
    have := line_big
    omega
  · obtain ⟨rs, ts, gD, gT, hl, hok, kG⟩ := hG
    refine ⟨_, rfl, _, _, rfl, rfl, by show 2 ≤ sizeLine; decide, fun t nt => ⟨by show 1 ≤ sizeLine; decide, fun z nz => ?_⟩⟩
    refine ⟨_, rfl, _, _, rfl, rfl, .inr ⟨_, rfl, ?_⟩⟩
    refine ⟨z, _, _, rfl, rfl, upd_same, by split <;> decide, by split <;> decide, by split <;> (show 1 * _ ≤ sizeLine; decide), fun r nr => ?_⟩
    have k1 : Ke G _ := ((Ke.new (S := fun _ => False) (o := .tup [.int 0, .int (n - 1)]) nt).trans (Ke.new (o := .lst [.ref t]) nz)).trans (Ke.new (o := .lst (List.replicate (Int.toNat (if decide (n > 2) = true then 1 else 0)) [V.ref t]).flatten) nr)
    have ht : upd (upd (upd G t (.tup [.int 0, .int (n - 1)])) z (.lst [.ref t])) r (.lst (List.replicate (Int.toNat (if decide (n > 2) = true then 1 else 0)) [V.ref t]).flatten) t = some (.tup [.int 0, .int (n - 1)]) := by
      rw [upd_ne, upd_ne (upd_none nz).1.symm, upd_same]
      exact fun e => by
        rw [← e, upd_ne (upd_none nz).1.symm, upd_same] at nr
        cases nr
    obtain ⟨us, hus, hul, huo⟩ : ∃ us : List (Int × Int), Ties (upd (upd (upd G t (.tup [.int 0, .int (n - 1)])) z (.lst [.ref t])) r (.lst (List.replicate (Int.toNat (if decide (n > 2) = true then 1 else 0)) [V.ref t]).flatten)) (List.replicate (Int.toNat (if decide (n > 2) = true then 1 else 0)) [V.ref t]).flatten us ∧ us.length ≤ 1 ∧ TOk n us := by
      by_cases h2 : n > 2
      · refine ⟨[(0, n - 1)], ?_, Nat.le_refl _, TOk.one (by decide) (by omega) (by omega)⟩
        have e : (List.replicate (Int.toNat (if decide (n > 2) = true then 1 else 0)) [V.ref t]).flatten = [V.ref t] := by rw [decide_eq_true h2]; rfl
        rw [e] at ht ⊢
        exact Ties.one ht
      · refine ⟨[], ?_, by decide, TOk.nil⟩
        have e : (List.replicate (Int.toNat (if decide (n > 2) = true then 1 else 0)) [V.ref t]).flatten = [] := by rw [decide_eq_false h2]; rfl
        rw [e]
        exact .nil
    have gT1 := gT.ke k1
    have gD1 := k1.lst gD
    have hr : upd (upd (upd G t (.tup [.int 0, .int (n - 1)])) z (.lst [.ref t])) r (.lst (List.replicate (Int.toNat (if decide (n > 2) = true then 1 else 0)) [V.ref t]).flatten) r = some (.lst (List.replicate (Int.toNat (if decide (n > 2) = true then 1 else 0)) [V.ref t]).flatten) := upd_same
    have kH := kG.trans k1
    generalize upd (upd (upd G t (.tup [.int 0, .int (n - 1)])) z (.lst [.ref t])) r (.lst (List.replicate (Int.toNat (if decide (n > 2) = true then 1 else 0)) [V.ref t]).flatten) = Hz at *
    refine ⟨D, r, _, _, rfl, rfl, gD1, hr, ?_, fun l nl => ?_⟩
    · rw [gT1.length, hus.length, hl]
      have := line_big
      omega
    · refine q _ l (ts ++ us) (kH.trans (Ke.new nl)) (kH.dom _ nl) ⟨_, upd_same, (gT1.append hus).new nl⟩ ?_ (hok.append huo)
      rw [List.length_append]
      omega
theorem ok__law_full {P : Program} {w : World} {K : PySem.W.Frag} {mg : Str → Option Value} {base : Heap} {tb : List Addr} {f : Addr} {fd : FuncData} (T : Blt mg) (D__law_full : DefAt K mg "_law_full" s_law_full ["_law_points"] f fd) :
    FnOk P w K mg base CX0 1 f fd ["_law_points"] (sp__law_full K tb) := by
  refine D__law_full.ok sc__law_full (fun vs H Q E h => by
    obtain ⟨n, rfl, hn0, hn1, q⟩ := h
    all_goals rfl) fun A outer s H vs Q E hr h => ?_
  obtain ⟨n, rfl, hn0, hn1, q⟩ := h
  refine ⟨_, pss_cons (ps_set (i := 1) sc__law_full.nd rfl (.inl rfl) (pe_lst pa_nil))
     (pss_cons (ps_for PassesOwn.never rfl (pi_range1 (by rfl) T.b_range (pa_cons (pv 0) pa_nil)) (pg_name (i := 2) sc__law_full.nd rfl (.inr rfl))
     (pss_one (ps_set (i := 1) sc__law_full.nd rfl (.inl rfl) (pe_op op_cat (pv 1) (pe_lc (own := [("_law_a", 3)]) rfl sc__law_full.nd (pi_range1 (by rfl) T.b_range (pa_cons (pv 2) pa_nil)) (blkOk_by (own := [("_law_a", 3)]) (N := nm__law_full) (sc := defScope s_law_full) (by decide +kernel)) (fun _ _ _ _ _ => pg_name (i := 3) sc__law_full.nd rfl (.inl rfl)) (fun _ _ _ _ _ => pts_nil) (fun _ _ _ _ _ => pe_tup (pa_cons (pv 3) (pa_cons (pv 2) pa_nil))))))))
     (pss_one (ps_ret (pv 1)))), ?_⟩
  refine ⟨Nat.zero_le _, fun l0 nl0 => ?_⟩
  refine ⟨_, rfl, n, rfl, by omega, by omega, ?_⟩
  refine for_range (n := n.toNat) (fun i σ G => ∃ (y2 y3 : Option V) (l : Addr) (ts : List (Int × Int)), σ = [some (.int n), some (.ref l), y2, y3] ∧ Ke H G ∧ H l = none ∧ TL G l ts ∧ ts.length ≤ 100 * i ∧ TOk n ts)
    ⟨none, none, l0, [], rfl, Ke.new nl0, nl0, ⟨[], upd_same, .nil⟩, Nat.zero_le _, TOk.nil⟩ (fun i σ G hi hG => ?_) (fun σ G hG => ?_)
  · obtain ⟨y2, y3, l, ts, rfl, kG, nl, ⟨rs, gl, gT⟩, hlen, hok⟩ := hG
    refine ⟨_, rfl, _, rfl, _, rfl, by omega, by omega, fun D hD => ?_⟩
    have nHD := kG.dom _ hD
    refine lc_range (lo := 0) (n := (0 + (i : Int)).toNat) (fun j G' => ∃ (qs : List V) (us : List (Int × Int)), G' D = some (.lst qs) ∧ Ties G' qs us ∧ us.length = j ∧ TOk n us ∧ Ke G G') ⟨[], [], upd_same, .nil, rfl, TOk.nil, Ke.new hD⟩ (fun j G' hj hG' => ?_) (fun G' hG' => ?_)
    · obtain ⟨qs, us, gD, gU, hul, huo, kU⟩ := hG'
      refine ⟨rfl, yes_ite ?_⟩
      refine ⟨_, rfl, _, rfl, by show 2 ≤ sizeLine; decide, fun t nt => ?_⟩
      have gD2 : upd G' t (.tup [.int (0 + (j : Int)), .int (0 + (i : Int))]) D = some (.lst qs) := by rw [upd_ne (ne_of_none gD nt)]; exact gD
      refine ⟨qs, gD2, ?_, qs ++ [.ref t], us ++ [(0 + (j : Int), 0 + (i : Int))], upd_same, (((gU.new nt).append (Ties.one upd_same)).put gD2), by rw [List.length_append, hul]; rfl, huo.append (TOk.one (by omega) (by omega) (by omega)), (kU.trans (Ke.new nt)).over hD⟩
      rw [gU.length, hul]
      have := line_big
      omega
    · obtain ⟨qs, us, gD, gU, hul, huo, kU⟩ := hG'
      refine ⟨l, D, _, _, rfl, rfl, kU.lst gl, gD, ?_, fun l2 nl2 => ?_⟩
      · rw [gT.length, gU.length, hul]
        have := line_big
        omega
      · refine ⟨_, _, l2, ts ++ us, rfl, (kG.trans kU).trans (Ke.new nl2), (kG.trans kU).dom _ nl2, ⟨_, upd_same, ((gT.ke kU).append gU).new nl2⟩, ?_, hok.append huo⟩
        rw [List.length_append]
        omega
  · obtain ⟨y2, y3, l, ts, rfl, kG, nl, ht, hlen, hok⟩ := hG
    exact ⟨_, rfl, q _ l ts kG nl ht (by omega) hok⟩
theorem ok__law_tree {P : Program} {w : World} {K : PySem.W.Frag} {mg : Str → Option Value} {base : Heap} {tb : List Addr} {f : Addr} {fd : FuncData} {f__law_next : Addr} {fd__law_next : FuncData} (T : Blt mg) (D__law_tree : DefAt K mg "_law_tree" s_law_tree ["_law_deck_here", "_law_points"] f fd) (D__law_next : DefAt K mg "_law_next" s_law_next ["_law_deck_here"] f__law_next fd__law_next) (G__law_next : FnOk P w K mg base CX0 1 f__law_next fd__law_next ["_law_deck_here"] (sp__law_next K tb)) :
    FnOk P w K mg base CX0 2 f fd ["_law_deck_here", "_law_points"] (sp__law_tree K tb) := by
  refine D__law_tree.ok sc__law_tree (fun vs H Q E h => by
    obtain ⟨p, n, rfl, hd, hn0, hn1, q⟩ := h
    all_goals rfl) fun A outer s H vs Q E hr h => ?_
  obtain ⟨p, n, rfl, hd, hn0, hn1, q⟩ := h
  refine ⟨_, pss_one (ps_ret (pe_lc (own := [("_law_k", 2)]) rfl sc__law_tree.nd (pi_range2 (by rfl) T.b_range (pa_cons (pe_int) (pa_cons (pv 1) pa_nil))) (blkOk_by (own := [("_law_k", 2)]) (N := nm__law_tree) (sc := defScope s_law_tree) (by decide +kernel)) (fun _ _ _ _ _ => pg_name (i := 2) sc__law_tree.nd rfl (.inl rfl)) (fun _ _ _ _ _ => pts_nil) (fun _ _ _ _ _ => pe_tup (pa_cons (pe_op op_mod (pe_call G__law_next (hr.mono (by decide)) (by rfl) D__law_next.g D__law_next.F.kp D__law_next.b .nil pass0 (pa_cons (pv 0) pa_nil)) (pv 2)) (pa_cons (pv 2) pa_nil))))), ?_⟩
  refine ⟨_, rfl, 1, n, rfl, ⟨by omega, by omega, by omega, by omega⟩, fun D hD => ?_⟩
  refine lc_range (lo := 1) (n := (n - 1).toNat) (fun i G => ∃ (rs : List V) (ts : List (Int × Int)), G D = some (.lst rs) ∧ Ties G rs ts ∧ ts.length = i ∧ TOk n ts ∧ Dk p H G) ⟨[], [], upd_same, .nil, rfl, TOk.nil, (Dk.refl hd).new hD⟩ (fun i G hi hG => ?_) (fun G hG => ?_)
  · obtain ⟨rs, ts, gD, gT, hl, hok, kG⟩ := hG
    refine ⟨rfl, yes_ite ?_⟩
    refine ⟨_, rfl, p, rfl, kG.d, fun r G1 r0 r1 kG1 => ?_⟩
    have e1 := emod_bds r (n := 1 + (i : Int)) (by omega)
    refine ⟨_, rfl, _, _, rfl, rfl, by omega, _, rfl, by show 2 ≤ sizeLine; decide, fun t nt => ?_⟩
    have nDp : D ≠ p := (hd.ne hD).symm
    have gD1 : G1 D = some (.lst rs) := kG1.lst gD nDp
    have gD2 : upd G1 t (.tup [.int (r % (1 + (i : Int))), .int (1 + (i : Int))]) D = some (.lst rs) := by rw [upd_ne (ne_of_none gD1 nt)]; exact gD1
    refine ⟨rs, gD2, ?_, rs ++ [.ref t], ts ++ [(r % (1 + (i : Int)), 1 + (i : Int))], upd_same, ((((gT.dk kG1 kG.d).new nt).append (Ties.one upd_same)).put gD2), by rw [List.length_append, hl]; rfl, hok.append (TOk.one e1.1 e1.2 (by omega)), ((kG.trans kG1).new nt).over hd hD⟩
    rw [gT.length, hl]
    have := line_big
    omega
  · obtain ⟨rs, ts, gD, gT, hl, hok, kG⟩ := hG
    exact q _ D ts kG hD ⟨rs, gD, gT⟩ (by omega) hok
theorem ok__law_web {P : Program} {w : World} {K : PySem.W.Frag} {mg : Str → Option Value} {base : Heap} {tb : List Addr} {f : Addr} {fd : FuncData} {f__law_next : Addr} {fd__law_next : FuncData} {f__law_any_web : Addr} {fd__law_any_web : FuncData} {f__law_round : Addr} {fd__law_round : FuncData} {f__law_full : Addr} {fd__law_full : FuncData} {f__law_tree : Addr} {fd__law_tree : FuncData} (T : Blt mg) (D__law_web : DefAt K mg "_law_web" s_law_web ["_law_deck_here", "_law_points", "_law_most"] f fd) (D__law_next : DefAt K mg "_law_next" s_law_next ["_law_deck_here"] f__law_next fd__law_next) (G__law_next : FnOk P w K mg base CX0 1 f__law_next fd__law_next ["_law_deck_here"] (sp__law_next K tb)) (D__law_any_web : DefAt K mg "_law_any_web" s_law_any_web ["_law_deck_here", "_law_points", "_law_most"] f__law_any_web fd__law_any_web) (G__law_any_web : FnOk P w K mg base CX0 3 f__law_any_web fd__law_any_web ["_law_deck_here", "_law_points", "_law_most"] (sp__law_any_web K tb)) (D__law_round : DefAt K mg "_law_round" s_law_round ["_law_points"] f__law_round fd__law_round) (G__law_round : FnOk P w K mg base CX0 1 f__law_round fd__law_round ["_law_points"] (sp__law_round K tb)) (D__law_full : DefAt K mg "_law_full" s_law_full ["_law_points"] f__law_full fd__law_full) (G__law_full : FnOk P w K mg base CX0 1 f__law_full fd__law_full ["_law_points"] (sp__law_full K tb)) (D__law_tree : DefAt K mg "_law_tree" s_law_tree ["_law_deck_here", "_law_points"] f__law_tree fd__law_tree) (G__law_tree : FnOk P w K mg base CX0 2 f__law_tree fd__law_tree ["_law_deck_here", "_law_points"] (sp__law_tree K tb)) :
    FnOk P w K mg base CX0 4 f fd ["_law_deck_here", "_law_points", "_law_most"] (sp__law_web K tb) := by
  refine D__law_web.ok sc__law_web (fun vs H Q E h => by
    obtain ⟨p, M, m, rfl, hd, hM0, hM1, hm0, hm1, q⟩ := h
    all_goals rfl) fun A outer s H vs Q E hr h => ?_
  obtain ⟨p, M, m, rfl, hd, hM0, hM1, hm0, hm1, q⟩ := h
  refine ⟨_, pss_cons (ps_set (i := 3) sc__law_web.nd rfl (.inl rfl) (pe_op op_mod (pe_call G__law_next (hr.mono (by decide)) (by rfl) D__law_next.g D__law_next.F.kp D__law_next.b .nil pass0 (pa_cons (pv 0) pa_nil)) (pe_int)))
     (pss_cons (ps_set (i := 4) sc__law_web.nd rfl (.inl rfl) (pe_op op_add (pe_int) (pe_op op_mod (pe_call G__law_next (hr.mono (by decide)) (by rfl) D__law_next.g D__law_next.F.kp D__law_next.b .nil pass0 (pa_cons (pv 0) pa_nil)) (pv 1))))
     (pss_cons (ps_if (PW.pt (pw_or (pt_cmpR op_lt (pv 3) (pe_int) (nomark _)) (pw_or1 (pt_cmpR op_eq (pv 4) (pe_int) (nomark _)))))
     (pss_one (ps_ret (pe_call G__law_any_web (hr.mono (by decide)) (by rfl) D__law_any_web.g D__law_any_web.F.kp D__law_any_web.b .nil pass0 (pa_cons (pv 0) (pa_cons (pv 4) (pa_cons (pv 2) pa_nil))))))
     (pss_nil))
     (pss_cons (ps_set (i := 5) sc__law_web.nd rfl (.inl rfl) (pe_callTy (listK (K := K)) (by rfl) T.b_list (by decide +kernel) (pa_cons (pe_ix (ix_tupK (K := K)) (pe_call G__law_any_web (hr.mono (by decide)) (by rfl) D__law_any_web.g D__law_any_web.F.kp D__law_any_web.b .nil pass0 (pa_cons (pv 0) (pa_cons (pv 4) (pa_cons (pe_int) pa_nil)))) (pe_int) (fun _ _ => rfl)) pa_nil)))
     (C8.pss_cut (ps_if (pt_cmpR op_eq (pv 3) (pe_int) (nomark _))
     (pss_one (ps_set (i := 6) sc__law_web.nd rfl (.inl rfl) (pe_op op_cat (pe_call G__law_round (hr.mono (by decide)) (by rfl) D__law_round.g D__law_round.F.kp D__law_round.b .nil pass0 (pa_cons (pv 4) pa_nil)) (pv 5))))
     (pss_one (ps_if (pt_cmpR op_eq (pv 3) (pe_int) (nomark _))
     (pss_one (ps_set (i := 6) sc__law_web.nd rfl (.inl rfl) (pe_op op_cat (pe_call G__law_full (hr.mono (by decide)) (by rfl) D__law_full.g D__law_full.F.kp D__law_full.b .nil pass0 (pa_cons (pe_callB (call_min2 rfl) (by rfl) T.b_min (by decide +kernel) (pa_cons (pv 4) (pa_cons (pe_int) pa_nil))) pa_nil)) (pv 5))))
     (pss_one (ps_if (pt_cmpR op_eq (pv 3) (pe_int) (nomark _))
     (pss_one (ps_set (i := 6) sc__law_web.nd rfl (.inl rfl) (pe_op op_cat (pe_call G__law_tree (hr.mono (by decide)) (by rfl) D__law_tree.g D__law_tree.F.kp D__law_tree.b .nil pass0 (pa_cons (pv 0) (pa_cons (pv 4) pa_nil))) (pv 5))))
     (pss_one (ps_if (pt_cmpR op_eq (pv 3) (pe_int) (nomark _))
     (pss_one (ps_set (i := 6) sc__law_web.nd rfl (.inl rfl) (pe_op op_cat (pe_op op_rep (pe_lst (pa_cons (pe_tup (pa_cons (pe_int) (pa_cons (pe_int) pa_nil))) pa_nil)) (pe_op op_mod (pe_call G__law_next (hr.mono (by decide)) (by rfl) D__law_next.g D__law_next.F.kp D__law_next.b .nil pass0 (pa_cons (pv 0) pa_nil)) (pe_op op_add (pv 2) (pe_int)))) (pv 5))))
     (pss_one (ps_set (i := 6) sc__law_web.nd rfl (.inl rfl) (pe_op op_cat (pe_op op_cat (pe_call G__law_tree (hr.mono (by decide)) (by rfl) D__law_tree.g D__law_tree.F.kp D__law_tree.b .nil pass0 (pa_cons (pv 0) (pa_cons (pv 4) pa_nil))) (pe_call G__law_tree (hr.mono (by decide)) (by rfl) D__law_tree.g D__law_tree.F.kp D__law_tree.b .nil pass0 (pa_cons (pv 0) (pa_cons (pv 4) pa_nil)))) (pe_slice (sl_listK (K := K)) (pv 5) po_none (po_some (pe_op op_mod (pe_call G__law_next (hr.mono (by decide)) (by rfl) D__law_next.g D__law_next.F.kp D__law_next.b .nil pass0 (pa_cons (pv 0) pa_nil)) (pe_int))))))))))))))
     (pss_cons (ps_set (i := 7) sc__law_web.nd rfl (.inl rfl) (pe_op op_mod (pe_call G__law_next (hr.mono (by decide)) (by rfl) D__law_next.g D__law_next.F.kp D__law_next.b .nil pass0 (pa_cons (pv 0) pa_nil)) (pe_callB (call_max2 rfl) (by rfl) T.b_max (by decide +kernel) (pa_cons (pe_int) (pa_cons (pe_callB (lenK (K := K)) (by rfl) T.b_len PySem.boot_len (pa_cons (pv 6) pa_nil)) pa_nil)))))
     (pss_one (ps_ret (pe_tup (pa_cons (pv 4) (pa_cons (pe_callTy (tupleK (K := K)) (by rfl) T.b_tuple (by decide +kernel) (pa_cons (pe_slice (sl_listK (K := K)) (pe_op op_cat (pe_slice (sl_listK (K := K)) (pv 6) (po_some (pv 7)) po_none) (pe_slice (sl_listK (K := K)) (pv 6) po_none (po_some (pv 7)))) po_none (po_some (pv 2))) pa_nil)) pa_nil)))))))))), ?_⟩
  refine ⟨_, rfl, p, rfl, hd, fun r1 H1 a0 a1 k1 => ⟨_, _, rfl, rfl, (by show (0 : Int) < 8; decide), ?_⟩⟩
  refine ⟨_, rfl, p, rfl, k1.d, fun r2 H2 b0 b1 k2 => ⟨_, rfl, _, _, rfl, rfl, by omega, _, _, rfl, rfl, ?_⟩⟩
  have e1 := emod_bds r1 (n := 8) (by decide)
  have e2 := emod_bds r2 (n := M) (by omega)
  have k12 := k1.trans k2
  have hs0 : 1 ≤ 1 + r2 % M := by omega
  have hs1 : 1 + r2 % M ≤ M := by omega
  -- the first way out
  have way1 : ∀ Q' : V → Hp → Prop, (∀ (H' : Hp) (v : V) (ts : List (Int × Int)), Dk p H2 H' → Web H' v (1 + r2 % M) ts → (ts.length : Int) ≤ m → TOk (1 + r2 % M) ts → Q' v H') → sp__law_any_web K tb [.ref p, .int (1 + r2 % M), .int m] H2 Q' E0 := fun Q' h' =>
    ⟨p, _, m, rfl, k12.d, hs0, by omega, hm0, hm1, fun H' v ts kk W l o _ => h' H' v ts kk W l o⟩
  have out1 : sp__law_any_web K tb [.ref p, .int (1 + r2 % M), .int m] H2 Q E0 := way1 Q fun H' v ts kk W l o => q H' v _ ts (k12.trans kk) W hs0 hs1 l o
  refine ⟨_, rfl, _, _, rfl, rfl, _, rfl, ite2 (fun c1 => ?_) (fun c1 => ?_)⟩
  · exact iteT ⟨_, rfl, _, rfl, _, rfl, out1⟩
  refine ⟨_, rfl, rfl, _, rfl, ite2 (fun c2 => ?_) (fun c2 => ?_)⟩
  · exact ⟨_, rfl, _, rfl, _, rfl, out1⟩
  have hs2 : 2 ≤ 1 + r2 % M := by
    have := ne_one c2
    omega
  clear way1 out1 c1 c2
  -- some ties more
  refine ⟨_, rfl, _, rfl, p, _, 4, rfl, k12.d, hs0, by omega, by decide, by decide, fun H3 v ms k3 W3 hml hmo _ => ?_⟩
  obtain ⟨t3, u3, rs3, rfl, ht3, hu3, hT3⟩ := W3
  refine ⟨t3, _, 1, _, rfl, rfl, sqT_of ht3, atI_nat (j := 1) rfl, u3, _, rfl, .inr (sqT_of hu3), fun lm nlm => ?_⟩
  have k4 : Dk p H (upd H3 lm (.lst rs3)) := (k12.trans k3).new nlm
  have hlm : (upd H3 lm (.lst rs3)) lm = some (.lst rs3) := upd_same
  have hTm : Ties (upd H3 lm (.lst rs3)) rs3 ms := hT3.new nlm
  have nHlm : H lm = none := (k12.trans k3).k.dom _ nlm
  have nlmp : lm ≠ p := (hd.ne nHlm).symm
  generalize upd H3 lm (.lst rs3) = H4 at *
  clear nlm hu3 ht3 hT3
  have LB := line_big
  have hrs3 : rs3.length = ms.length := hTm.length
  refine ⟨fun σ G => ∃ (l : Addr) (ts : List (Int × Int)), σ = [some (.ref p), some (.int M), some (.int m), some (.int (r1 % 8)), some (.int (1 + r2 % M)), some (.ref lm), some (.ref l), none] ∧ Dk p H G ∧ H l = none ∧ TL G l ts ∧ TOk (1 + r2 % M) ts ∧ ts.length ≤ 20000, ?_, fun σ G hG => ?_⟩
  · -- the ways
    refine ⟨_, rfl, rfl, _, rfl, ite2 (fun _ => ?_) (fun _ => ?_)⟩
    · refine ⟨_, rfl, _, rfl, hs2, by omega, fun H5 l1 us k5 nl1 hTL hul huo => ?_⟩
      obtain ⟨qs, hl1, hU⟩ := hTL
      have nHl1 := k4.k.dom _ nl1
      refine ⟨_, rfl, l1, lm, _, _, rfl, rfl, hl1, k5.lst hlm, by rw [hU.length, hrs3]; omega, fun o no => ?_⟩
      exact ⟨o, us ++ ms, rfl, (k4.ke k5).new no, (k4.ke k5).k.dom _ no, ⟨_, upd_same, (hU.append (hTm.ke k5)).new no⟩, huo.append hmo, by rw [List.length_append]; omega⟩
    refine ⟨_, rfl, rfl, _, rfl, ite2 (fun _ => ?_) (fun _ => ?_)⟩
    · refine ⟨_, rfl, _, _, rfl, _, rfl, by split <;> omega, by split <;> omega, fun H5 l1 us k5 nl1 hTL hul huo => ?_⟩
      obtain ⟨qs, hl1, hU⟩ := hTL
      refine ⟨_, rfl, l1, lm, _, _, rfl, rfl, hl1, k5.lst hlm, by rw [hU.length, hrs3]; omega, fun o no => ?_⟩
      exact ⟨o, us ++ ms, rfl, (k4.ke k5).new no, (k4.ke k5).k.dom _ no, ⟨_, upd_same, (hU.append (hTm.ke k5)).new no⟩, (huo.mono (by split <;> omega)).append hmo, by rw [List.length_append]; omega⟩
    refine ⟨_, rfl, rfl, _, rfl, ite2 (fun _ => ?_) (fun _ => ?_)⟩
    · refine ⟨_, rfl, _, rfl, p, _, rfl, k4.d, hs0, by omega, fun H5 l1 us k5 nl1 hTL hul huo => ?_⟩
      obtain ⟨qs, hl1, hU⟩ := hTL
      have hTm5 := hTm.dk k5 k4.d
      refine ⟨_, rfl, l1, lm, _, _, rfl, rfl, hl1, k5.lst hlm nlmp, by rw [hU.length, hrs3]; omega, fun o no => ?_⟩
      exact ⟨o, us ++ ms, rfl, (k4.trans k5).new no, (k4.trans k5).k.dom _ no, ⟨_, upd_same, (hU.append hTm5).new no⟩, huo.append hmo, by rw [List.length_append]; omega⟩
    refine ⟨_, rfl, rfl, _, rfl, ite2 (fun _ => ?_) (fun _ => ?_)⟩
    · refine ⟨by show 2 ≤ sizeLine; decide, fun t nt => ⟨by show 1 ≤ sizeLine; decide, fun z nz => ?_⟩⟩
      have k5 : Dk p H4 (upd (upd H4 t (.tup [.int 0, .int 1])) z (.lst [.ref t])) := ((Dk.refl k4.d).new nt).new nz
      have nHz : H z = none := (k4.k.trans (Ke.new nt)).dom _ nz
      have hz5 : (upd (upd H4 t (.tup [.int 0, .int 1])) z (.lst [.ref t])) z = some (.lst [.ref t]) := upd_same
      have ht5 : (upd (upd H4 t (.tup [.int 0, .int 1])) z (.lst [.ref t])) t = some (.tup [.int 0, .int 1]) := by rw [upd_ne (upd_none nz).1.symm, upd_same]
      generalize upd (upd H4 t (.tup [.int 0, .int 1])) z (.lst [.ref t]) = H5 at *
      refine ⟨_, rfl, p, rfl, k5.d, fun r5 H6 c0 c1 k6 => ?_⟩
      have e5 := emod_bds r5 (n := m + 1) (by omega)
      have k56 := k5.trans k6
      refine ⟨_, rfl, _, _, rfl, rfl, _, _, rfl, rfl, by omega, z, _, _, rfl, rfl, k6.lst hz5 (hd.ne nHz).symm, by omega, by omega, by show 1 * _ ≤ sizeLine; omega, fun y ny => ?_⟩
      have hT7 := (hTm.dk k56 k4.d).new (o := .lst (List.replicate (r5 % (m + 1)).toNat [V.ref t]).flatten) ny
      have hR := (Ties.rep (k6.tup k5.d ht5) (r5 % (m + 1)).toNat).new (o := .lst (List.replicate (r5 % (m + 1)).toNat [V.ref t]).flatten) ny
      have hlm7 : upd H6 y (.lst (List.replicate (r5 % (m + 1)).toNat [V.ref t]).flatten) lm = some (.lst rs3) := lst_new ny (k56.lst hlm nlmp)
      have hrl := hR.length
      rw [List.length_replicate] at hrl
      refine ⟨_, rfl, y, lm, _, _, rfl, rfl, upd_same, hlm7, by rw [hrl, hrs3]; omega, fun o no => ?_⟩
      exact ⟨o, List.replicate (r5 % (m + 1)).toNat (0, 1) ++ ms, rfl, ((k4.trans k56).new ny).new no, ((k4.trans k56).new (o := .lst (List.replicate (r5 % (m + 1)).toNat [V.ref t]).flatten) ny).k.dom _ no, ⟨_, upd_same, (hR.append hT7).new no⟩, (TOk.rep (by decide) (by decide) (by omega) _).append hmo, by rw [List.length_append, List.length_replicate]; omega⟩
    · refine ⟨_, rfl, _, rfl, p, _, rfl, k4.d, hs0, by omega, fun H5 l1 us k5 nl1 hTL hul huo => ?_⟩
      obtain ⟨qs, hl1, hU⟩ := hTL
      have nHl1 := k4.k.dom _ nl1
      refine ⟨_, rfl, _, rfl, p, _, rfl, k5.d, hs0, by omega, fun H6 l2 ws k6 nl2 hTL2 hwl hwo => ?_⟩
      obtain ⟨xs2, hl2, hW⟩ := hTL2
      refine ⟨l1, l2, _, _, rfl, rfl, k6.lst hl1 (hd.ne nHl1).symm, hl2, by rw [hU.length, hW.length]; omega, fun o no => ?_⟩
      have k7 := k6.new (o := .lst (qs ++ xs2)) no
      have hUW := ((hU.dk k6 k5.d).append hW).new (o := .lst (qs ++ xs2)) no
      have nHo := ((k4.trans k5).trans k6).k.dom _ no
      have ho : upd H6 o (.lst (qs ++ xs2)) o = some (.lst (qs ++ xs2)) := upd_same
      generalize upd H6 o (.lst (qs ++ xs2)) = H7 at *
      have k57 := k5.trans k7
      refine ⟨_, rfl, _, rfl, p, rfl, k57.d, fun r8 H8 c0 c1 k8 => ?_⟩
      have e8 := emod_bds r8 (n := 2) (by decide)
      refine ⟨_, _, rfl, rfl, (by show (0 : Int) < 2; decide), _, rfl, lm, _, rfl, sqL_of ((k57.trans k8).lst hlm nlmp), fun x nx => ?_⟩
      rw [cut_to' _ e8.1]
      have hTx := ((hTm.dk (k57.trans k8) k4.d).take (r8 % 2).toNat).new (o := .lst (rs3.take (r8 % 2).toNat)) nx
      have hUx := (hUW.dk k8 k57.d).new (o := .lst (rs3.take (r8 % 2).toNat)) nx
      have hox := lst_new (o := .lst (rs3.take (r8 % 2).toNat)) nx (k8.lst ho (hd.ne nHo).symm)
      have hlx := hTx.length
      rw [List.length_take, List.length_take] at hlx
      have hly := hUx.length
      rw [List.length_append, List.length_append] at hly
      refine ⟨o, x, _, _, rfl, rfl, hox, upd_same, by rw [List.length_append, List.length_take]; omega, fun y ny => ?_⟩
      have kz := (k4.trans (k57.trans k8)).new (o := .lst (rs3.take (r8 % 2).toNat)) nx
      refine ⟨y, (us ++ ws) ++ ms.take (r8 % 2).toNat, rfl, kz.new ny, kz.k.dom _ ny, ⟨_, upd_same, (hUx.append hTx).new ny⟩, (huo.append hwo).append (hmo.sub fun t ht => List.mem_of_mem_take ht), ?_⟩
      rw [List.length_append, List.length_append, List.length_take]
      omega
  · -- turned, and cut
    obtain ⟨l, ts, rfl, kG, nl, ⟨qs, hl, hT⟩, hok, hlen⟩ := hG
    have hql : qs.length = ts.length := hT.length
    refine ⟨_, rfl, p, rfl, kG.d, fun r9 H9 c0 c1 k9 => ?_⟩
    have nlp : l ≠ p := (hd.ne nl).symm
    have hl9 := k9.lst hl nlp
    have hT9 := hT.dk k9 kG.d
    refine ⟨_, rfl, l, _, rfl, .inl (sqL_of hl9), _, _, rfl, _, _, rfl, rfl, by split <;> omega, ?_⟩
    have e9 := emod_bds r9 (n := if (qs.length : Int) > 1 then (qs.length : Int) else 1) (by split <;> omega)
    obtain ⟨d, hdd⟩ : ∃ d : Nat, (d : Int) = r9 % (if (qs.length : Int) > 1 then (qs.length : Int) else 1) := ⟨_, Int.toNat_of_nonneg e9.1⟩
    have cf : ∀ xs : List V, cutV xs (some (r9 % (if (qs.length : Int) > 1 then (qs.length : Int) else 1))) none = xs.drop d := fun xs => by rw [← hdd, cut_from]
    have ct : ∀ xs : List V, cutV xs none (some (r9 % (if (qs.length : Int) > 1 then (qs.length : Int) else 1))) = xs.take d := fun xs => by rw [← hdd, cut_to]
    refine ⟨_, rfl, _, rfl, _, rfl, _, rfl, l, _, rfl, sqL_of hl9, fun x nx => ?_⟩
    rw [cf]
    have hlx := lst_new (o := .lst (qs.drop d)) nx hl9
    refine ⟨_, rfl, _, rfl, _, rfl, l, _, rfl, sqL_of hlx, fun y ny => ?_⟩
    rw [ct]
    have hxy := lst_new (o := .lst (qs.take d)) ny (show upd H9 x (.lst (qs.drop d)) x = _ from upd_same)
    refine ⟨x, y, _, _, rfl, rfl, hxy, upd_same, by rw [List.length_drop, List.length_take]; omega, fun z nz => ?_⟩
    refine ⟨_, rfl, _, rfl, z, _, rfl, sqL_of upd_same, fun w nw => ?_⟩
    rw [cut_to' _ hm0]
    refine ⟨w, _, rfl, .inl ⟨sqL_of upd_same, fun u nu => ?_⟩⟩
    refine ⟨by show 2 ≤ sizeLine; decide, fun t nt => ?_⟩
    refine q _ _ _ _ (((((((kG.trans k9).new nx).new ny).new nz).new nw).new nu).new nt) ⟨t, u, _, rfl, upd_same, ?_, ((((((((hT9.drop d).append (hT9.take d)).take m.toNat).new nx).new ny).new nz).new nw).new nu).new nt⟩ hs0 hs1 ?_ (hok.sub fun t ht => ?_)
    · rw [upd_ne (upd_none nt).1.symm, upd_same]
    · rw [List.length_take]
      omega
    · rcases List.mem_append.mp (List.mem_of_mem_take ht) with ht | ht
      · exact List.mem_of_mem_drop ht
      · exact List.mem_of_mem_take ht
theorem ok__law_heads {P : Program} {w : World} {K : PySem.W.Frag} {mg : Str → Option Value} {base : Heap} {tb : List Addr} {f : Addr} {fd : FuncData} (T : Blt mg) (D__law_heads : DefAt K mg "_law_heads" s_law_heads ["_law_points", "_law_ties"] f fd) :
    FnOk P w K mg base CX0 1 f fd ["_law_points", "_law_ties"] (sp__law_heads K tb) := by
  refine D__law_heads.ok sc__law_heads (fun vs H Q E h => by
    obtain ⟨n, u, rs, ts, rfl, hu, hT, hok, hn0, hn1, q⟩ := h
    all_goals rfl) fun A outer s H vs Q E hr h => ?_
  obtain ⟨n, u, rs, ts, rfl, hu, hT, hok, hn0, hn1, q⟩ := h
  refine ⟨_, pss_cons (ps_set (i := 2) sc__law_heads.nd rfl (.inl rfl) (pe_listRg rfl (by rfl) T.b_list (prg_1 (by rfl) T.b_range (pv 0))))
     (pss_cons (ps_for PassesOwn.never rfl (pi_list (pv 1)) (tgtK (K := K) (n := 2) (pgs_cons (pg_name (i := 3) sc__law_heads.nd rfl (.inl rfl)) (pgs_cons (pg_name (i := 4) sc__law_heads.nd rfl (.inl rfl)) pgs_nil)))
     (pss_cons (ps_set (i := 5) sc__law_heads.nd rfl (.inr rfl) (pe_ix (ix_listK (K := K)) (pv 2) (pv 3) (fun _ _ => rfl)))
     (pss_cons (ps_set (i := 6) sc__law_heads.nd rfl (.inr rfl) (pe_ix (ix_listK (K := K)) (pv 2) (pv 4) (fun _ _ => rfl)))
     (pss_one (ps_setLc (i := 2) (own := [("_law_head", 7)]) rfl sc__law_heads.nd rfl rfl (sw_true rfl rfl rfl (by decide +kernel)) (pi_list (pv 2)) (blkOk_by (own := [("_law_head", 7)]) (N := nm__law_heads) (sc := defScope s_law_heads) (by decide +kernel)) (fun _ _ _ _ _ => pg_name (i := 7) sc__law_heads.nd rfl (.inl rfl)) (fun _ _ _ _ _ => pts_nil) (fun _ _ _ _ _ => pe_ix (ix_listK (K := K)) (pe_lst (pa_cons (pv 7) (pa_cons (pe_callB (call_min2 rfl) (by rfl) T.b_min (by decide +kernel) (pa_cons (pv 5) (pa_cons (pv 6) pa_nil))) pa_nil))) (pe_callTy call_int1 (by rfl) T.b_int (by decide +kernel) (pa_cons (pe_cmpR (in_seqK (K := K)) (pv 7) (pe_lst (pa_cons (pv 5) (pa_cons (pv 6) pa_nil))) (by rfl)) pa_nil)) (fun _ _ => rfl)))))))
     (pss_one (ps_ret (pv 2)))), ?_⟩
  refine ⟨_, rfl, n, rfl, ⟨by omega, by omega, by omega, by omega, by omega⟩, fun l nl => ?_⟩
  refine ⟨_, rfl, u, rfl, ⟨_, sqL_of (lst_new nl hu)⟩, ?_⟩
  refine for_list (K := K) (a := u) (xs := rs) (fun i σ G => ∃ (y3 y4 y5 y6 y7 : Option V) (l' : Addr), σ = [some (.int n), some (.ref u), some (.ref l'), y3, y4, y5, y6, y7] ∧ Ke H G ∧ G l' = some (.lst ((headsF (upTo n) (ts.take i)).map V.int))) ⟨_, _, _, _, _, l, rfl, Ke.new nl, by rw [upd_same, rgV_up]; rfl⟩ (fun i σ G _ hG => ?_) (fun i x σ G hx hG => ?_) (fun σ G hG => ?_)
  · obtain ⟨_, _, _, _, _, _, _, kG, _⟩ := hG
    exact sqL_of (kG.lst hu)
  · obtain ⟨y3, y4, y5, y6, y7, l', rfl, kG, gl⟩ := hG
    obtain ⟨⟨x1, x2⟩, r', hti, rfl, hr'⟩ := hT.get hx
    obtain ⟨ok1, ok2, ok3⟩ := hok _ (List.mem_of_getElem? hti)
    dsimp only at ok1 ok2 ok3
    have en : headsF (upTo n) (ts.take (i + 1)) = hstep (headsF (upTo n) (ts.take i)) (x1, x2) := by rw [take_next hti, headsF_snoc]
    have hl : ((headsF (upTo n) (ts.take i)).length : Int) = n := by rw [headsF_length, upTo_length]; omega
    obtain ⟨hs, ehs⟩ : ∃ hs, hs = headsF (upTo n) (ts.take i) := ⟨_, rfl⟩
    rw [← ehs] at en hl gl
    refine ⟨r', _, rfl, sqT_of (kG.tup hr'), rfl, _, _, rfl, _, [], rfl, rfl, ?_⟩
    refine ⟨_, rfl, _, rfl, l', _, _, _, rfl, rfl, sqL_of gl, hat_at ok1 (by omega), ?_⟩
    refine ⟨_, rfl, _, rfl, l', _, _, _, rfl, rfl, sqL_of gl, hat_at (x := x2) (by omega) (by omega), ?_⟩
    refine ⟨_, rfl, l', rfl, ⟨_, sqL_of gl⟩, fun D hD => ?_⟩
    refine lc_list (K := K) (a := l') (xs := hs.map V.int) (fun j G' => Ke H G' ∧ G' l' = some (.lst (hs.map V.int)) ∧ G' D = some (.lst (((hs.take j).map (mrg (hat hs x1) (hat hs x2))).map V.int))) ⟨kG.trans (Ke.new hD), lst_new hD gl, upd_same⟩ (fun j G' _ hG' => sqL_of hG'.2.1) (fun j x G' hx' hG' => ?_) (fun G' hG' => ?_)
    · obtain ⟨kG', gl', gD'⟩ := hG'
      obtain ⟨h, hh, rfl⟩ := int_at hx'
      refine ⟨rfl, yes_ite ?_⟩
      refine ⟨_, rfl, _, rfl, _, rfl, _, _, rfl, by show 2 ≤ sizeLine; decide, fun b nb => ?_⟩
      refine ⟨_, rfl, _, rfl, _, rfl, by show 2 ≤ sizeLine; decide, fun c nc => ?_⟩
      refine ⟨c, [hat hs x1, hat hs x2].map V.int, rfl, .inl (sqL_of upd_same), rfl, rfl, .inr ⟨_, rfl, ?_⟩⟩
      have hj : j < hs.length := (List.getElem?_eq_some_iff.mp hh).1
      have e0 : ((hs.take (j + 1)).map (mrg (hat hs x1) (hat hs x2))).map V.int = ((hs.take j).map (mrg (hat hs x1) (hat hs x2))).map V.int ++ [V.int (mrg (hat hs x1) (hat hs x2) h)] := by rw [take_next hh, List.map_append, List.map_append]; rfl
      refine ⟨b, [V.int h, V.int (if hat hs x2 < hat hs x1 then hat hs x2 else hat hs x1)], _, V.int (mrg (hat hs x1) (hat hs x2) h), rfl, rfl, sqL_of (lst_new nc upd_same), ?_, _, lst_new nc (lst_new nb gD'), ?_, ?_⟩
      · show atI [V.int h, V.int (if hat hs x2 < hat hs x1 then hat hs x2 else hat hs x1)] (if inV (V.int h) ([hat hs x1, hat hs x2].map V.int) = true then 1 else 0) = _
        rw [inV_int]
        have em : (if hat hs x2 < hat hs x1 then hat hs x2 else hat hs x1) = min (hat hs x1) (hat hs x2) := by
          rw [Int.min_def]
          split <;> split <;> omega
        rw [em]
        unfold mrg
        by_cases z : h = hat hs x1 ∨ h = hat hs x2
        · have d : decide (h ∈ [hat hs x1, hat hs x2]) = true := decide_eq_true (by simpa using z)
          rw [d, if_pos rfl, if_pos z]
          rfl
        · have d : decide (h ∈ [hat hs x1, hat hs x2]) = false := decide_eq_false (by simpa using z)
          rw [d, if_neg (by decide), if_neg z]
          rfl
      · rw [List.length_map, List.length_map, List.length_take]
        have := line_big
        omega
      · rw [← e0]
        exact ⟨((kG'.trans (Ke.new nb)).trans (Ke.new nc)).over (kG.dom _ hD), by
          rw [upd_ne (ne_of_none gl hD)]
          exact lst_new nc (lst_new nb gl'), upd_same⟩
    · obtain ⟨kG', gl', gD'⟩ := hG'
      rw [List.length_map, List.take_length] at gD'
      exact ⟨_, _, _, _, _, D, rfl, kG', by rw [en]; exact gD'⟩
  · obtain ⟨_, _, _, _, _, l', rfl, kG, gl⟩ := hG
    rw [hT.length, List.take_length] at gl
    exact ⟨_, rfl, q l' G kG gl⟩
theorem ok__law_is_forest {P : Program} {w : World} {K : PySem.W.Frag} {mg : Str → Option Value} {base : Heap} {tb : List Addr} {f : Addr} {fd : FuncData} {f__law_heads : Addr} {fd__law_heads : FuncData} (T : Blt mg) (D__law_is_forest : DefAt K mg "_law_is_forest" s_law_is_forest ["_law_points", "_law_ties"] f fd) (D__law_heads : DefAt K mg "_law_heads" s_law_heads ["_law_points", "_law_ties"] f__law_heads fd__law_heads) (G__law_heads : FnOk P w K mg base CX0 1 f__law_heads fd__law_heads ["_law_points", "_law_ties"] (sp__law_heads K tb)) :
    FnOk P w K mg base CX0 2 f fd ["_law_points", "_law_ties"] (sp__law_is_forest K tb) := by
  refine D__law_is_forest.ok sc__law_is_forest (fun vs H Q E h => by
    obtain ⟨n, u, rs, ts, rfl, hu, hT, hok, hn0, hn1, q⟩ := h
    all_goals rfl) fun A outer s H vs Q E hr h => ?_
  obtain ⟨n, u, rs, ts, rfl, hu, hT, hok, hn0, hn1, q⟩ := h
  refine ⟨_, pss_one (ps_ret (pe_cmpR op_eq (pe_op op_add (pe_callB (lenK (K := K)) (by rfl) T.b_len PySem.boot_len (pa_cons (pv 1) pa_nil)) (pe_lenSetL (by rfl) T.b_len (by rfl) T.b_set (pe_call G__law_heads (hr.mono (by decide)) (by rfl) D__law_heads.g D__law_heads.F.kp D__law_heads.b .nil pass0 (pa_cons (pv 0) (pa_cons (pv 1) pa_nil))))) (pv 0) (nomark _))), ?_⟩
  refine ⟨_, rfl, u, rs, rfl, .inl (sqL_of hu), ?_⟩
  refine ⟨_, rfl, _, rfl, n, u, rs, ts, rfl, hu, hT, hok, hn0, hn1, fun l H1 k1 hl => ?_⟩
  refine ⟨l, _, rfl, sqL_of hl, ?_, ?_⟩
  · rw [headsF_length, upTo_length]
    omega
  refine ⟨_, _, rfl, rfl, ?_⟩
  refine ⟨_, rfl, rfl, ?_⟩
  have q1 := q H1 k1
  rw [forest_iff hn0 hok] at q1
  rw [decide_int, hT.length]
  exact q1
theorem ok__law_within {P : Program} {w : World} {K : PySem.W.Frag} {mg : Str → Option Value} {base : Heap} {tb : List Addr} {f : Addr} {fd : FuncData} (T : Blt mg) (D__law_within : DefAt K mg "_law_within" s_law_within ["_law_web_here", "_law_lot"] f fd) :
    FnOk P w K mg base CX0 1 f fd ["_law_web_here", "_law_lot"] (sp__law_within K tb) := by
  refine D__law_within.ok sc__law_within (fun vs H Q E h => by
    obtain ⟨v, n, ts, a, ls, rfl, W, hl, hlen, q⟩ := h
    all_goals rfl) fun A outer s H vs Q E hr h => ?_
  obtain ⟨v, n, ts, a, ls, rfl, W, hl, hlen, q⟩ := h
  refine ⟨_, pss_one (ps_ret (pe_callB (lenK (K := K)) (by rfl) T.b_len PySem.boot_len (pa_cons (pe_lc (own := [("_law_a", 2), ("_law_b", 3)]) rfl sc__law_within.nd ((pi_seq (K := K)) (pe_ix (ix_tupK (K := K)) (pv 0) (pe_int) (fun _ _ => rfl))) (blkOk_by (own := [("_law_a", 2), ("_law_b", 3)]) (N := nm__law_within) (sc := defScope s_law_within) (by decide +kernel)) (fun _ _ _ _ _ => tgtK (K := K) (n := 2) (pgs_cons (pg_name (i := 2) sc__law_within.nd rfl (.inl rfl)) (pgs_cons (pg_name (i := 3) sc__law_within.nd rfl (.inl rfl)) pgs_nil))) (fun _ _ _ _ _ => pts_one (PW.pt (pw_and (pt_cmpR (in_seqK (K := K)) (pv 2) (pv 1) (by rfl)) (pw_and1 (pt_cmpR (in_seqK (K := K)) (pv 3) (pv 1) (by rfl)))))) (fun _ _ _ _ _ => pe_int)) pa_nil))), ?_⟩
  have LB := line_big
  rcases W with ⟨t, u, rs, rfl, ht, hu, hT⟩ | ⟨t, u, rs, rfl, ht, hu, hT⟩
  · refine ⟨_, rfl, t, _, 1, _, rfl, rfl, sqT_of ht, atI_nat (j := 1) rfl, u, _, rfl, .inr ⟨sqT_of hu, fun D hD => ?_⟩⟩
    refine lc_tup (K := K) (a := u) (xs := rs) (fun i G => ∃ acc : List V, G = upd H D (.lst acc) ∧ acc.length = inside ls (ts.take i)) ⟨[], rfl, by simp [inside]⟩ (fun i G _ hG => ?_) (fun i r G hr hG => ?_) (fun G hG => ?_)
    · obtain ⟨acc, rfl, _⟩ := hG
      exact sqT_of (tup_new hD hu)
    · obtain ⟨acc, rfl, hacc⟩ := hG
      obtain ⟨⟨x, y⟩, r', hti, rfl, hr'⟩ := hT.get hr
      have hs := inside_take (ls := ls) hti
      dsimp only at hs
      refine ⟨r', _, rfl, sqT_of (tup_new hD hr'), rfl, _, _, rfl, _, [], rfl, rfl, rfl, ?_⟩
      refine ⟨_, rfl, _, rfl, a, _, rfl, .inr (sqT_of (tup_new hD hl)), rfl, flat_ints ls, _, rfl, ?_⟩
      rw [inV_int]
      refine iteB (fun (e1 : decide (x ∈ ls) = true) => ?_) (fun (e1 : decide (x ∈ ls) = false) => ?_)
      · refine ⟨_, rfl, _, rfl, a, _, rfl, .inr (sqT_of (tup_new hD hl)), rfl, flat_ints ls, _, rfl, ?_⟩
        rw [inV_int]
        refine iteB (fun (e2 : decide (y ∈ ls) = true) => ?_) (fun (e2 : decide (y ∈ ls) = false) => ?_)
        · refine ⟨acc, upd_same, ?_, acc ++ [.int 1], upd_upd, ?_⟩
          · rw [hacc]
            have h1 := inside_le ls (ts.take i)
            have h2 := List.length_take_le i ts
            have h3 : (ts.take i).length ≤ ts.length := List.length_take_le' i ts
            omega
          · rw [List.length_append, hacc, hs, e1, e2]
            rfl
        · refine ⟨acc, rfl, ?_⟩
          rw [hs, e1, e2]
          exact hacc
      · refine ⟨acc, rfl, ?_⟩
        rw [hs, e1]
        exact hacc
    · obtain ⟨acc, rfl, hacc⟩ := hG
      rw [hT.length, List.take_length] at hacc
      refine ⟨D, _, rfl, .inl (sqL_of upd_same), ?_⟩
      rw [hacc]
      exact q _ (Ke.new hD)
  · refine ⟨_, rfl, t, _, 1, _, rfl, rfl, sqT_of ht, atI_nat (j := 1) rfl, u, _, rfl, .inl ⟨sqL_of hu, fun D hD => ?_⟩⟩
    refine lc_list (K := K) (a := u) (xs := rs) (fun i G => ∃ acc : List V, G = upd H D (.lst acc) ∧ acc.length = inside ls (ts.take i)) ⟨[], rfl, by simp [inside]⟩ (fun i G _ hG => ?_) (fun i r G hr hG => ?_) (fun G hG => ?_)
    · obtain ⟨acc, rfl, _⟩ := hG
      exact sqL_of (lst_new hD hu)
    · obtain ⟨acc, rfl, hacc⟩ := hG
      obtain ⟨⟨x, y⟩, r', hti, rfl, hr'⟩ := hT.get hr
      have hs := inside_take (ls := ls) hti
      dsimp only at hs
      refine ⟨r', _, rfl, sqT_of (tup_new hD hr'), rfl, _, _, rfl, _, [], rfl, rfl, rfl, ?_⟩
      refine ⟨_, rfl, _, rfl, a, _, rfl, .inr (sqT_of (tup_new hD hl)), rfl, flat_ints ls, _, rfl, ?_⟩
      rw [inV_int]
      refine iteB (fun (e1 : decide (x ∈ ls) = true) => ?_) (fun (e1 : decide (x ∈ ls) = false) => ?_)
      · refine ⟨_, rfl, _, rfl, a, _, rfl, .inr (sqT_of (tup_new hD hl)), rfl, flat_ints ls, _, rfl, ?_⟩
        rw [inV_int]
        refine iteB (fun (e2 : decide (y ∈ ls) = true) => ?_) (fun (e2 : decide (y ∈ ls) = false) => ?_)
        · refine ⟨acc, upd_same, ?_, acc ++ [.int 1], upd_upd, ?_⟩
          · rw [hacc]
            have h1 := inside_le ls (ts.take i)
            have h2 := List.length_take_le i ts
            have h3 : (ts.take i).length ≤ ts.length := List.length_take_le' i ts
            omega
          · rw [List.length_append, hacc, hs, e1, e2]
            rfl
        · refine ⟨acc, rfl, ?_⟩
          rw [hs, e1, e2]
          exact hacc
      · refine ⟨acc, rfl, ?_⟩
        rw [hs, e1]
        exact hacc
    · obtain ⟨acc, rfl, hacc⟩ := hG
      rw [hT.length, List.take_length] at hacc
      refine ⟨D, _, rfl, .inl (sqL_of upd_same), ?_⟩
      rw [hacc]
      exact q _ (Ke.new hD)
theorem ok__law_lots {P : Program} {w : World} {K : PySem.W.Frag} {mg : Str → Option Value} {base : Heap} {tb : List Addr} {f : Addr} {fd : FuncData} (T : Blt mg) (D__law_lots : DefAt K mg "_law_lots" s_law_lots ["_law_points"] f fd) :
    FnOk P w K mg base CX0 1 f fd ["_law_points"] (sp__law_lots K tb) := by
  refine D__law_lots.ok sc__law_lots (fun vs H Q E h => by
    obtain ⟨n, rfl, hn, q⟩ := h
    all_goals rfl) fun A outer s H vs Q E hr h => ?_
  obtain ⟨n, rfl, hn, q⟩ := h
  refine ⟨_, pss_cons (ps_set (i := 1) sc__law_lots.nd rfl (.inl rfl) (pe_lst (pa_cons (pe_lst pa_nil) pa_nil)))
     (pss_cons (ps_for PassesOwn.never rfl (pi_range1 (by rfl) T.b_range (pa_cons (pv 0) pa_nil)) (pg_name (i := 2) sc__law_lots.nd rfl (.inr rfl))
     (pss_one (ps_set (i := 1) sc__law_lots.nd rfl (.inl rfl) (pe_op op_cat (pv 1) (pe_lc (own := [("_law_lot", 3)]) rfl sc__law_lots.nd (pi_list (pv 1)) (blkOk_by (own := [("_law_lot", 3)]) (N := nm__law_lots) (sc := defScope s_law_lots) (by decide +kernel)) (fun _ _ _ _ _ => pg_name (i := 3) sc__law_lots.nd rfl (.inl rfl)) (fun _ _ _ _ _ => pts_nil) (fun _ _ _ _ _ => pe_op op_cat (pv 3) (pe_lst (pa_cons (pv 2) pa_nil))))))))
     (pss_one (ps_ret (pe_lc (own := [("_law_lot", 3)]) rfl sc__law_lots.nd (pi_list (pv 1)) (blkOk_by (own := [("_law_lot", 3)]) (N := nm__law_lots) (sc := defScope s_law_lots) (by decide +kernel)) (fun _ _ _ _ _ => pg_name (i := 3) sc__law_lots.nd rfl (.inl rfl)) (fun _ _ _ _ _ => pts_one (pt_cmpR (neDK (K := K) hr.units) (pv 3) (pe_lst pa_nil) (nomark _))) (fun _ _ _ _ _ => pe_callTy (tupleK (K := K)) (by rfl) T.b_tuple (by decide +kernel) (pa_cons (pv 3) pa_nil)))))), ?_⟩
  have LB := line_big
  have B12 : ∀ i : Nat, i ≤ 12 → (lotsF i).length ≤ 4096 := fun i hi => by
    rw [lotsF_len]
    exact Nat.pow_le_pow_right (by decide) hi
  refine ⟨by show 0 ≤ sizeLine; decide, fun z nz => ⟨by show 1 ≤ sizeLine; decide, fun F0 nF0 => ?_⟩⟩
  refine ⟨_, rfl, n, rfl, by omega, by omega, ?_⟩
  refine for_range (lo := 0) (n := n) (fun i σ G => ∃ (F : Addr) (rs : List V) (y2 y3 : Option V), σ = [some (.int n), some (.ref F), y2, y3] ∧ Ke H G ∧ G F = some (.lst rs) ∧ LsL G rs (lotsF i)) ?_ (fun i σ G hi hG => ?_) (fun σ G hG => ?_)
  · exact ⟨F0, _, _, _, rfl, (Ke.new nz).trans (Ke.new nF0), upd_same, LsL.one (ls := []) (lst_new nF0 upd_same)⟩
  · obtain ⟨F, rs, y2, y3, rfl, kG, gF, gL⟩ := hG
    rw [Int.zero_add]
    have hrl := gL.length
    have hb := B12 i (by omega)
    refine ⟨_, rfl, _, rfl, F, rfl, ⟨_, sqL_of gF⟩, fun D hD => ?_⟩
    refine lc_list (K := K) (a := F) (xs := rs) (fun j G2 => ∃ qs, Ke G G2 ∧ G2 D = some (.lst qs) ∧ LsL G2 qs (((lotsF i).take j).map fun l => l ++ [(i : Int)]) ∧ V.ref D ∉ qs) ⟨[], Ke.new hD, upd_same, .nil, fun z => nomatch z⟩ (fun j G2 _ hG2 => ?_) (fun j r G2 hr hG2 => ?_) (fun G2 hG2 => ?_)
    · obtain ⟨_, k2, _⟩ := hG2
      exact sqL_of (k2.lst gF)
    · obtain ⟨qs, k2, gD, g2, hn2⟩ := hG2
      obtain ⟨ls, q0, hj, rfl, hq0⟩ := gL.get hr
      have hql : qs.length ≤ 4096 := by
        rw [g2.length, List.length_map, List.length_take]
        omega
      have hll : ls.length ≤ 12 := by
        have := (lotsF_ok i ls (List.mem_of_getElem? hj)).2.2
        omega
      refine ⟨rfl, yes_ite ?_⟩
      refine ⟨_, rfl, _, rfl, by show 1 ≤ sizeLine; decide, fun b nb => ?_⟩
      refine ⟨q0, b, _, _, rfl, rfl, lst_new nb (k2.lst hq0), upd_same, by rw [List.length_map]; show ls.length + 1 ≤ sizeLine; omega, fun c nc => ?_⟩
      have kc := (k2.trans (Ke.new (o := .lst [.int (i : Int)]) nb)).trans (Ke.new (o := .lst (ls.map V.int ++ [.int (i : Int)])) nc)
      have kc2 := (Ke.new (S := fun _ => False) (o := .lst [.int (i : Int)]) nb).trans (Ke.new (o := .lst (ls.map V.int ++ [.int (i : Int)])) nc)
      have gD2 := Ke.lst kc2 gD
      have cD : c ≠ D := fun z => by rw [z, lst_new nb gD] at nc; cases nc
      refine ⟨qs, gD2, by omega, qs ++ [.ref c], kc.over hD, upd_same, ?_, ?_⟩
      · rw [take_next hj, List.map_append]
        refine LsL.put ((g2.ke kc2).append (LsL.one (ls := ls ++ [(i : Int)]) ?_)) ?_
        · rw [List.map_append]
          exact upd_same
        · intro z
          rcases List.mem_append.mp z with z | z
          · exact hn2 z
          · exact cD (V.ref.inj (List.mem_singleton.mp z)).symm
      · intro z
        rcases List.mem_append.mp z with z | z
        · exact hn2 z
        · exact cD (V.ref.inj (List.mem_singleton.mp z)).symm
    · obtain ⟨qs, k2, gD, g2, _⟩ := hG2
      rw [hrl, List.take_length] at g2
      have hql := g2.length
      rw [List.length_map] at hql
      refine ⟨F, D, _, _, rfl, rfl, k2.lst gF, gD, by omega, fun p np => ?_⟩
      exact ⟨p, _, _, _, rfl, (kG.trans k2).trans (Ke.new np), upd_same, ((gL.ke k2).append g2).ke (Ke.new np)⟩
  · obtain ⟨F, rs, y2, y3, rfl, kG, gF, gL⟩ := hG
    have hrl := gL.length
    have hb := B12 n hn
    refine ⟨_, rfl, F, rfl, ⟨_, sqL_of gF⟩, fun D hD => ?_⟩
    refine lc_list (K := K) (a := F) (xs := rs) (fun j G2 => ∃ qs, Ke G G2 ∧ G2 D = some (.lst qs) ∧ Lots G2 qs (((lotsF n).take j).filter fun l => !l.isEmpty)) ⟨[], Ke.new hD, upd_same, .nil⟩ (fun j G2 _ hG2 => ?_) (fun j r G2 hr hG2 => ?_) (fun G2 hG2 => ?_)
    · obtain ⟨_, k2, _⟩ := hG2
      exact sqL_of (k2.lst gF)
    · obtain ⟨qs, k2, gD, g2⟩ := hG2
      obtain ⟨ls, q0, hj, rfl, hq0⟩ := gL.get hr
      have hql : qs.length ≤ 4096 := by
        rw [g2.length]
        refine Nat.le_trans (List.length_filter_le _ _) ?_
        rw [List.length_take]
        omega
      have hs : ((lotsF n).take (j + 1)).filter (fun l => !l.isEmpty) = ((lotsF n).take j).filter (fun l => !l.isEmpty) ++ if (!ls.isEmpty) = true then [ls] else [] := by
        rw [take_next hj, List.filter_append, List.filter_cons]
        rfl
      refine ⟨rfl, _, rfl, by show 0 ≤ sizeLine; decide, fun z nz => ?_⟩
      have hq1 := lst_new (o := .lst []) nz (k2.lst hq0)
      refine ⟨.list (ls.map .int), .list [], .lst (sqL_of hq1) (dp_ints ls), .lst (sqL_of upd_same) .nil, PySem.W.shaped_ints ls, PySem.W.shaped_ints [], _, rfl, ?_⟩
      rw [eqv_list0, List.isEmpty_map]
      refine iteB (fun hb => ?_) (fun hb => ?_)
      · have hb : (!ls.isEmpty) = true := hb
        rw [if_pos hb] at hs
        refine ⟨_, rfl, q0, _, rfl, .inl ⟨sqL_of hq1, fun c nc => ?_⟩⟩
        have kc2 := (Ke.new (S := fun _ => False) (o := .lst []) nz).trans (Ke.new (o := .tup (ls.map V.int)) nc)
        refine ⟨qs, Ke.lst kc2 gD, by omega, qs ++ [.ref c], (k2.trans kc2).over hD, upd_same, ?_⟩
        rw [hs]
        exact ((g2.ke kc2).append (Lots.one upd_same)).put (Ke.lst kc2 gD)
      · have hb : (!ls.isEmpty) = false := hb
        rw [if_neg (by rw [hb]; decide), List.append_nil] at hs
        refine ⟨qs, k2.trans (Ke.new nz), lst_new nz gD, ?_⟩
        rw [hs]
        exact g2.new nz
    · obtain ⟨qs, k2, gD, g2⟩ := hG2
      rw [hrl, List.take_length] at g2
      exact q _ D qs (kG.trans k2) (kG.dom _ hD) gD g2
theorem ok__law_laying {P : Program} {w : World} {K : PySem.W.Frag} {mg : Str → Option Value} {base : Heap} {tb : List Addr} {f : Addr} {fd : FuncData} {f__law_next : Addr} {fd__law_next : FuncData} {f__law_is_forest : Addr} {fd__law_is_forest : FuncData} (T : Blt mg) (D__law_laying : DefAt K mg "_law_laying" s_law_laying ["_law_deck_here", "_law_web_here"] f fd) (D__law_next : DefAt K mg "_law_next" s_law_next ["_law_deck_here"] f__law_next fd__law_next) (G__law_next : FnOk P w K mg base CX0 1 f__law_next fd__law_next ["_law_deck_here"] (sp__law_next K tb)) (D__law_is_forest : DefAt K mg "_law_is_forest" s_law_is_forest ["_law_points", "_law_ties"] f__law_is_forest fd__law_is_forest) (G__law_is_forest : FnOk P w K mg base CX0 2 f__law_is_forest fd__law_is_forest ["_law_points", "_law_ties"] (sp__law_is_forest K tb)) :
    FnOk P w K mg base CX0 3 f fd ["_law_deck_here", "_law_web_here"] (sp__law_laying K tb) := by
  refine D__law_laying.ok sc__law_laying (fun vs H Q E h => by
    obtain ⟨p, v, n, ts, rfl, hd, W, hok, hn0, hn1, hlen, q⟩ := h
    all_goals rfl) fun A outer s H vs Q E hr h => ?_
  obtain ⟨p, v, n, ts, rfl, hd, W, hok, hn0, hn1, hlen, q⟩ := h
  refine ⟨_, pss_cons (ps_set (i := 2) sc__law_laying.nd rfl (.inr rfl) (pe_lst pa_nil))
     (pss_cons (ps_set (i := 3) sc__law_laying.nd rfl (.inl rfl) (pe_lst pa_nil))
     (pss_cons (ps_for PassesOwn.never rfl (pi_enumT (K := K) (by rfl) T.b_enumerate (pa_cons (pe_ix (ix_tupK (K := K)) (pv 1) (pe_int) (fun _ _ => rfl)) pa_nil)) (tgtK (K := K) (n := 2) (pgs_cons (pg_name (i := 4) sc__law_laying.nd rfl (.inl rfl)) (pgs_cons (pg_name (i := 5) sc__law_laying.nd rfl (.inr rfl)) pgs_nil)))
     (pss_cons (ps_set (i := 6) sc__law_laying.nd rfl (.inl rfl) (pe_op op_mod (pe_call G__law_next (hr.mono (by decide)) (by rfl) D__law_next.g D__law_next.F.kp D__law_next.b .nil pass0 (pa_cons (pv 0) pa_nil)) (pe_op op_add (pe_callB (lenK (K := K)) (by rfl) T.b_len PySem.boot_len (pa_cons (pv 2) pa_nil)) (pe_int))))
     (pss_cons (ps_set (i := 7) sc__law_laying.nd rfl (.inl rfl) (pe_op op_cat (pe_slice (sl_listK (K := K)) (pe_listRg rfl (by rfl) T.b_list (prg_1 (by rfl) T.b_range (pe_callB (lenK (K := K)) (by rfl) T.b_len PySem.boot_len (pa_cons (pv 2) pa_nil)))) (po_some (pv 6)) po_none) (pe_slice (sl_listK (K := K)) (pe_listRg rfl (by rfl) T.b_list (prg_1 (by rfl) T.b_range (pe_callB (lenK (K := K)) (by rfl) T.b_len PySem.boot_len (pa_cons (pv 2) pa_nil)))) po_none (po_some (pv 6)))))
     (pss_cons (ps_setLc (i := 10) (own := [("_law_k", 8)]) rfl sc__law_laying.nd rfl rfl (sw_true rfl rfl rfl (by decide +kernel)) (pi_list (pv 7)) (blkOk_by (own := [("_law_k", 8)]) (N := nm__law_laying) (sc := defScope s_law_laying) (by decide +kernel)) (fun _ _ _ _ _ => pg_name (i := 8) sc__law_laying.nd rfl (.inl rfl)) (fun _ _ _ _ _ => pts_one (pt_val (pe_call G__law_is_forest (hr.mono (by decide)) (by rfl) D__law_is_forest.g D__law_is_forest.F.kp D__law_is_forest.b .nil pass0 (pa_cons (pe_ix (ix_tupK (K := K)) (pv 1) (pe_int) (fun _ _ => rfl)) (pa_cons (pe_op op_cat (pe_lc (own := [("_law_other", 9)]) rfl sc__law_laying.nd ((pi_listK (K := K)) (pe_ix (ix_listK (K := K)) (pv 2) (pv 8) (fun _ _ => rfl))) (blkOk_by (own := [("_law_other", 9)]) (N := nm__law_laying) (sc := relS csc__law_laying_6_20 (defScope s_law_laying)) (by decide +kernel)) (fun _ _ _ _ _ => pg_name (i := 9) sc__law_laying.nd rfl (.inl rfl)) (fun _ _ _ _ _ => pts_nil) (fun _ _ _ _ _ => pe_ix (ix_tupK (K := K)) (pe_ix (ix_tupK (K := K)) (pv 1) (pe_int) (fun _ _ => rfl)) (pv 9) (fun _ _ => rfl))) (pe_lst (pa_cons (pv 5) pa_nil))) pa_nil))))) (fun _ _ _ _ _ => pv 8))
     (C8.pss_cut (ps_if (pt_cmpR (eqDK (K := K) hr.units) (pv 10) (pe_lst pa_nil) (nomark _))
     (pss_cons (ps_set (i := 10) sc__law_laying.nd rfl (.inl rfl) (pe_lst (pa_cons (pe_callB (lenK (K := K)) (by rfl) T.b_len PySem.boot_len (pa_cons (pv 2) pa_nil)) pa_nil)))
     (pss_one (ps_expr (pe_bm PySem.F.plainAttrs_list PySem.F.slot_list_append PySem.F.type_list_append mt_append (pv 2) (pa_cons (pe_lst pa_nil) pa_nil)))))
     (pss_nil))
     (pss_cons (ps_expr (pe_bm PySem.F.plainAttrs_list PySem.F.slot_list_append PySem.F.type_list_append mt_append (pe_ix (ix_listK (K := K)) (pv 2) (pe_ix (ix_listK (K := K)) (pv 10) (pe_int) (fun _ _ => rfl)) (fun _ _ => rfl)) (pa_cons (pv 4) pa_nil)))
     (pss_one (ps_expr (pe_bm PySem.F.plainAttrs_list PySem.F.slot_list_append PySem.F.type_list_append mt_append (pv 3) (pa_cons (pe_ix (ix_listK (K := K)) (pv 10) (pe_int) (fun _ _ => rfl)) pa_nil))))))))))
     (pss_one (ps_ret (pe_tup (pa_cons (pe_callB (lenK (K := K)) (by rfl) T.b_len PySem.boot_len (pa_cons (pv 2) pa_nil)) (pa_cons (pe_callTy (tupleK (K := K)) (by rfl) T.b_tuple (by decide +kernel) (pa_cons (pv 3) pa_nil)) pa_nil))))))), ?_⟩
  have LB := line_big
  obtain ⟨t, w, rs, rfl, ht, hw, hT⟩ := id W
  have hrl := hT.length
  refine ⟨by show 0 ≤ sizeLine; decide, fun a na => ?_⟩
  refine ⟨by show 0 ≤ sizeLine; decide, fun b nb => ?_⟩
  obtain ⟨nba, nb0⟩ := upd_none nb
  have nap : a ≠ p := (hd.ne na).symm
  have nbp : b ≠ p := (hd.ne nb0).symm
  have k0 : Dk p H (upd (upd H a (.lst [])) b (.lst [])) := ((Dk.refl hd).new na).new nb
  have ga0 : (upd (upd H a (.lst [])) b (.lst [])) a = some (.lst []) := lst_new nb upd_same
  refine ⟨_, rfl, t, _, 1, _, rfl, rfl, sqT_of (k0.tup hd ht), atI_nat (j := 1) rfl, w, rs, rfl, sqT_of (k0.tup hd hw), ?_⟩
  refine for_it (walk_enumT (K := K) (a := w) (xs := rs)) (fun i σ G => ∃ (y4 y5 y6 y7 y8 y9 y10 : Option V) (fs : List Addr) (ws : List V), σ = [some (.ref p), some (.ref t), some (.ref a), some (.ref b), y4, y5, y6, y7, y8, y9, y10] ∧ Dk p H G ∧ Lays G a fs ws ∧ G b = some (.lst ws) ∧ b ∉ fs ∧ (∀ q ∈ fs, H q = none) ∧ fs.length ≤ i ∧ Laid (ts.take i) fs.length ws) ⟨_, _, _, _, _, _, _, [], [], rfl, k0, ⟨ga0, List.nodup_nil, (fun z => nomatch z), fun j x hx => by simp at hx⟩, upd_same, (fun z => nomatch z), (fun _ z => nomatch z), Nat.le_refl _, ⟨rfl, (fun _ z => nomatch z), fun _ => rfl⟩⟩ (fun i σ G _ hG => ?_) (fun i x σ G G' hi hG hy => ?_) (fun σ G hG => ?_)
  · obtain ⟨_, _, _, _, _, _, _, _, _, _, kG, _⟩ := hG
    exact sqT_of (kG.tup hd hw)
  · obtain ⟨y4, y5, y6, y7, y8, y9, y10, fs, ws, rfl, kG, LG, gb, nbf, hfr, hfl, hLd⟩ := hG
    obtain ⟨T1, z1, z2, rfl, nT, rfl, e1, e2⟩ := hy
    have e1 : some (V.int (i : Int)) = some z1 := e1
    have e2 : rs[i]? = some z2 := e2
    cases e1
    obtain ⟨tt, qq, hti, rfl, hq⟩ := hT.get e2
    have il : i < ts.length := (List.getElem?_eq_some_iff.mp hti).1
    have hwl : ws.length = i := by rw [hLd.len, List.length_take]; omega
    have tok := hok tt (List.mem_of_getElem? hti)
    have kT : Ke G (upd G T1 (.tup [.int (i : Int), .ref qq])) := Ke.new nT
    refine ⟨T1, _, rfl, sqT_of upd_same, rfl, _, _, rfl, _, [], rfl, rfl, ?_⟩
    refine ⟨_, rfl, p, rfl, (kG.ke kT).d, fun r G1 r0 r1 k1 => ?_⟩
    have L1 : Lays G1 a fs ws := (LG.ke kT).kx k1.k nap fun x hx z => (hd.ne (hfr x hx)) z.symm
    have gb1 : G1 b = some (.lst ws) := k1.lst (kT.lst gb) nbp
    have kH1 : Dk p H G1 := (kG.ke kT).trans k1
    have er := emod_bds r (n := ((fs.map V.ref).length : Int) + 1) (by omega)
    have hfl2 : (fs.map V.ref).length = fs.length := List.length_map ..
    refine ⟨_, rfl, a, _, rfl, .inl (sqL_of L1.at_), _, _, rfl, rfl, _, _, rfl, rfl, by omega, ?_⟩
    refine ⟨_, rfl, a, _, rfl, .inl (sqL_of L1.at_), _, rfl, ⟨by omega, by omega, by omega, by omega, by omega⟩, fun l1 nl1 => ?_⟩
    refine ⟨_, rfl, _, rfl, l1, _, rfl, sqL_of upd_same, fun l2 nl2 => ?_⟩
    refine ⟨_, rfl, a, _, rfl, .inl (sqL_of (lst_new nl2 (lst_new nl1 L1.at_))), _, rfl, ⟨by omega, by omega, by omega, by omega, by omega⟩, fun l3 nl3 => ?_⟩
    refine ⟨_, rfl, _, rfl, l3, _, rfl, sqL_of upd_same, fun l4 nl4 => ?_⟩
    have hlr : (rgV 0 ((fs.map V.ref).length : Int)).length = fs.length := by rw [rgV_up, List.length_map, upTo_length]; omega
    refine ⟨l2, l4, _, _, rfl, rfl, lst_new nl4 (lst_new nl3 upd_same), upd_same, ?_, fun l5 nl5 => ?_⟩
    · rw [cut_from' _ er.1, cut_to' _ er.1, List.length_drop, List.length_take, hlr]
      omega
    generalize eG : upd _ l5 _ = G2
    have kP : Ke G1 G2 := eG ▸ ((((Ke.new nl1).trans (Ke.new nl2)).trans (Ke.new nl3)).trans (Ke.new nl4)).trans (Ke.new nl5)
    obtain ⟨ps, hps, gP⟩ : ∃ ps : List Int, (∀ x ∈ ps, 0 ≤ x ∧ x < fs.length) ∧ ps.length = fs.length ∧ G2 l5 = some (.lst (ps.map V.int)) := by
      refine ⟨(upTo fs.length).drop (r % (((fs.map V.ref).length : Int) + 1)).toNat ++ (upTo fs.length).take (r % (((fs.map V.ref).length : Int) + 1)).toNat, fun x hx => ?_, ?_, ?_⟩
      · rcases List.mem_append.mp hx with hx | hx
        · exact mem_upTo (List.mem_of_mem_drop hx)
        · exact mem_upTo (List.mem_of_mem_take hx)
      · rw [List.length_append, List.length_drop, List.length_take, upTo_length]
        omega
      · rw [← eG, upd_same, cut_from' _ er.1, cut_to' _ er.1, rgV_up, hfl2, List.map_append, List.map_drop, List.map_take]
    clear eG nl5 nl4 nl3 nl2 nl1
    obtain ⟨hpl, gP⟩ := gP
    have L2' : Lays G2 a fs ws := L1.ke kP
    have kH2 : Dk p H G2 := kH1.ke kP
    have gb2 := kP.lst gb1
    -- the free layers
    refine ⟨_, rfl, l5, rfl, ⟨_, sqL_of gP⟩, fun D hD => ?_⟩
    have nDH : H D = none := kH2.k.dom _ hD
    refine lc_list (K := K) (a := l5) (xs := ps.map V.int) (fun j G' => Ke G2 G' ∧ G' D = some (.lst (((ps.take j).filter (freeB (ts.take i) ws tt)).map V.int))) ⟨Ke.new hD, upd_same⟩ (fun j G' _ hG' => sqL_of (hG'.1.lst gP)) (fun j x G' hx' hG' => ?_) (fun G' hG' => ?_)
    · obtain ⟨kG', gD'⟩ := hG'
      obtain ⟨f1, hf1, rfl⟩ := int_at hx'
      obtain ⟨f10, f11⟩ := hps f1 (List.mem_of_getElem? hf1)
      have kk := kH2.ke kG'
      have LG' := L2'.ke kG'
      have fl : f1.toNat < fs.length := by omega
      have hfq := List.getElem?_eq_getElem fl
      have gq := LG'.each _ _ hfq
      have hf1e : ((f1.toNat : Nat) : Int) = f1 := by omega
      rw [hf1e] at gq
      obtain ⟨fq, efq⟩ : ∃ fq, fq = fs[f1.toNat] := ⟨_, rfl⟩
      rw [← efq] at hfq gq
      refine ⟨rfl, ?_⟩
      refine ⟨_, rfl, t, _, 0, _, rfl, rfl, sqT_of (kk.tup hd ht), atI_nat (j := 0) rfl, ?_⟩
      refine ⟨_, rfl, _, rfl, a, _, _, .ref fq, rfl, rfl, sqL_of LG'.at_, ?_, fq, rfl, ⟨_, sqL_of gq⟩, fun D2 hD2 => ?_⟩
      · rw [← hf1e]
        exact atI_nat (by rw [List.getElem?_map, hfq]; rfl)
      have hnb : ∀ m ∈ numsFrom f1 0 ws, 0 ≤ m ∧ m < ts.length := fun m hm => by
        have := nums_bd f1 0 ws m hm
        omega
      have hnl := nums_length f1 0 ws
      refine lc_list (K := K) (a := fq) (xs := (numsFrom f1 0 ws).map V.int) (fun j2 G5 => ∃ qs, Ke G' G5 ∧ G5 D2 = some (.lst qs) ∧ Ties G5 qs (pick ts ((numsFrom f1 0 ws).take j2))) ⟨[], Ke.new hD2, upd_same, .nil⟩ (fun j2 G5 _ hG5 => by obtain ⟨_, k5, _⟩ := hG5; exact sqL_of (k5.lst gq)) (fun j2 x G5 hx5 hG5 => ?_) (fun G5 hG5 => ?_)
      · obtain ⟨qs, k5, gD5, hTq⟩ := hG5
        obtain ⟨m, hm, rfl⟩ := int_at hx5
        obtain ⟨m0, m1⟩ := hnb m (List.mem_of_getElem? hm)
        obtain ⟨e, he, hqe⟩ := hT.at_ m0 m1
        have kk5 := kk.ke k5
        refine ⟨rfl, yes_ite ?_⟩
        refine ⟨_, rfl, t, _, 1, _, rfl, rfl, sqT_of (kk5.tup hd ht), atI_nat (j := 1) rfl, _, rfl, w, _, m, _, rfl, rfl, sqT_of (kk5.tup hd hw), he, _, gD5, ?_, _, k5.over hD2, upd_same, ?_⟩
        · rw [hTq.length, pick_length, List.length_take]
          omega
        · rw [take_next hm]
          exact (Ties.pick1 hTq (kk5.tup hd hqe)).put gD5
      · obtain ⟨qs, k5, gD5, hTq⟩ := hG5
        rw [List.length_map, List.take_length, pick_layer hwl (Nat.le_of_lt il)] at hTq
        have kk5 := kk.ke k5
        have lq : qs.length ≤ 1000 := by
          rw [hTq.length]
          have := layerOf_length (ts.take i) ws f1
          rw [List.length_take] at this
          omega
        refine ⟨_, rfl, by show 1 ≤ sizeLine; decide, fun b2 nb2 => ?_⟩
        refine ⟨D2, b2, _, _, rfl, rfl, lst_new nb2 gD5, upd_same, by show qs.length + 1 ≤ sizeLine; omega, fun o no => ?_⟩
        have k6 : Ke G' (upd (upd G5 b2 (.lst [.ref qq])) o (.lst (qs ++ [.ref qq]))) := (k5.trans (Ke.new nb2)).trans (Ke.new no)
        refine ⟨n, o, _, layerOf (ts.take i) ws f1 ++ [tt], rfl, upd_same, ((hTq.append (Ties.one (kk5.tup hd hq))).new nb2).new no, (layerOf_ok (hok.sub fun x hx => List.mem_of_mem_take hx) _ _).append (TOk.one tok.1 tok.2.1 tok.2.2), hn0, hn1, fun G7 k7 => ?_⟩
        have k8 : Ke G' G7 := k6.trans k7
        have gD7 := k8.lst gD'
        have eb : (ps.take (j + 1)).filter (freeB (ts.take i) ws tt) = (ps.take j).filter (freeB (ts.take i) ws tt) ++ [f1].filter (freeB (ts.take i) ws tt) := by
          rw [take_next hf1]
          exact List.filter_append ..
        refine ⟨_, rfl, iteB (fun hb => ?_) (fun hb => ?_)⟩
        · have hb : freeB (ts.take i) ws tt f1 = true := hb
          refine ⟨_, rfl, _, gD7, ?_, (kG'.trans k8).over hD, ?_⟩
          · rw [List.length_map]
            have h1 : ((ps.take j).filter (freeB (ts.take i) ws tt)).length ≤ (ps.take j).length := List.length_filter_le _ _
            rw [List.length_take] at h1
            omega
          · rw [upd_same, eb, List.filter_cons_of_pos hb, List.map_append]
            rfl
        · have hb : freeB (ts.take i) ws tt f1 = false := hb
          exact ⟨kG'.trans k8, by rw [eb, List.filter_cons_of_neg (by rw [hb]; decide), List.filter_nil, List.append_nil]; exact gD7⟩
    obtain ⟨kG', gD'⟩ := hG'
    rw [List.length_map, List.take_length] at gD'
    have kk := kH2.ke kG'
    have LG' := L2'.ke kG'
    have gb' := kG'.lst gb2
    have nDa : D ≠ a := fun z => by rw [z, L2'.at_] at hD; cases hD
    have nDb : D ≠ b := fun z => by rw [z, gb2] at hD; cases hD
    have nDf : D ∉ fs := fun z => by
      obtain ⟨j, hj⟩ := List.getElem?_of_mem z
      rw [L2'.each j D hj] at hD
      cases hD
    refine ⟨fun σ G3 => ∃ (y6 y7 y8 y9 : Option V) (fr : Addr) (f1 : Nat) (rest : List V) (fs' : List Addr), σ = [some (.ref p), some (.ref t), some (.ref a), some (.ref b), some (.int (i : Int)), some (.ref qq), y6, y7, y8, y9, some (.ref fr)] ∧ Dk p H G3 ∧ Lays G3 a fs' ws ∧ G3 b = some (.lst ws) ∧ b ∉ fs' ∧ (∀ q ∈ fs', H q = none) ∧ fs'.length ≤ i + 1 ∧ fs.length ≤ fs'.length ∧ G3 fr = some (.lst (.int (f1 : Int) :: rest)) ∧ f1 < fs'.length ∧ freeB (ts.take i) ws tt (f1 : Int) = true ∧ fr ∉ fs' ∧ fr ≠ b, ?_, fun σ G3 hM => ?_⟩
    · refine ⟨_, rfl, by show 0 ≤ sizeLine; decide, fun z nz => ?_⟩
      refine ⟨.list ((ps.filter (freeB (ts.take i) ws tt)).map PyData.int), .list [], .lst (sqL_of (lst_new nz gD')) (dp_ints _), .lst (sqL_of upd_same) .nil, PySem.W.shaped_ints _, PySem.W.shaped_ints [], _, rfl, iteB (fun e => ?_) (fun e => ?_)⟩
      · have Lz := LG'.ke (Ke.new (o := .lst []) nz)
        have gbz := lst_new (o := .lst []) nz gb'
        refine ⟨_, rfl, a, _, rfl, .inl (sqL_of Lz.at_), by show 1 ≤ sizeLine; decide, fun fr nfr => ?_⟩
        have Lr := Lz.ke (Ke.new (o := .lst [.int ((fs.map V.ref).length : Int)]) nfr)
        have gbr := lst_new (o := .lst [.int ((fs.map V.ref).length : Int)]) nfr gbz
        refine ⟨_, rfl, .inl ⟨rfl, _, sqL_of Lr.at_⟩, by show 0 ≤ sizeLine; decide, fun e ne => ?_⟩
        have kr : Dk p H (upd (upd (upd G' z (.lst [])) fr (.lst [.int ((fs.map V.ref).length : Int)])) e (.lst [])) := ((kk.new nz).new nfr).new ne
        have Le := Lr.ke (Ke.new (o := .lst []) ne)
        refine ⟨a, _, _, rfl, rfl, Le.at_, by omega, ?_⟩
        have Lm := Lr.more ne hLd.num
        rw [List.map_append] at Lm
        have nea : e ≠ a := fun z => by rw [z, Lr.at_] at ne; cases ne
        have neb : e ≠ b := fun z => by rw [z, gbr] at ne; cases ne
        have nfra : fr ≠ a := fun z => by rw [z, Lz.at_] at nfr; cases nfr
        have nfrb : fr ≠ b := fun z => by rw [z, gbz] at nfr; cases nfr
        have nfre : e ≠ fr := fun z => by rw [z, upd_same] at ne; cases ne
        have nfrf : fr ∉ fs := fun z => by
          obtain ⟨j, hj⟩ := List.getElem?_of_mem z
          rw [Lz.each j fr hj] at nfr
          cases nfr
        have neH : H e = none := ((kk.new nz).new nfr).k.dom _ ne
        refine ⟨_, _, _, _, fr, fs.length, [], fs ++ [e], rfl, kr.over hd na, Lm, ?_, fun z => ?_, fun x hx => ?_, ?_, ?_, ?_, ?_, ?_, fun z => ?_, nfrb⟩
        · rw [upd_ne nba]
          exact lst_new ne gbr
        · rcases List.mem_append.mp z with z | z
          · exact nbf z
          · exact neb (List.mem_singleton.mp z).symm
        · rcases List.mem_append.mp hx with hx | hx
          · exact hfr x hx
          · rw [List.mem_singleton.mp hx]
            exact neH
        · rw [List.length_append]
          exact Nat.succ_le_succ hfl
        · rw [List.length_append]
          exact Nat.le_succ _
        · rw [upd_ne nfra, upd_ne nfre.symm, upd_same, hfl2]
        · rw [List.length_append]
          exact Nat.lt_succ_self _
        · exact hLd.new_free (by omega)
        · rcases List.mem_append.mp z with z | z
          · exact nfrf z
          · exact nfre (List.mem_singleton.mp z).symm
      · cases ef : ps.filter (freeB (ts.take i) ws tt) with
        | nil => rw [ef] at e; cases e
        | cons f2 rest =>
          have hm2 : f2 ∈ ps.filter (freeB (ts.take i) ws tt) := by rw [ef]; exact List.mem_cons_self
          obtain ⟨hm3, hm4⟩ := List.mem_filter.mp hm2
          obtain ⟨f20, f21⟩ := hps f2 hm3
          have e2 : ((f2.toNat : Nat) : Int) = f2 := by omega
          rw [ef] at gD'
          refine ⟨_, _, _, _, D, f2.toNat, rest.map V.int, fs, rfl, kk.new nz, LG'.ke (Ke.new nz), lst_new nz gb', nbf, hfr, by omega, Nat.le_refl _, ?_, by omega, by rw [e2]; exact hm4, nDf, nDb⟩
          rw [e2]
          exact lst_new nz gD'
    · obtain ⟨y6, y7, y8, y9, fr, f1, rest, fs', rfl, k3, L3, gb3, nbf3, hfr3, hfl3, hle, gfr, hf1, hfree, nfr3, nfrb⟩ := hM
      have hfq := List.getElem?_eq_getElem hf1
      obtain ⟨fq, efq⟩ : ∃ fq, fq = fs'[f1] := ⟨_, rfl⟩
      rw [← efq] at hfq
      have gq := L3.each _ _ hfq
      have hfqm := List.mem_of_getElem? hfq
      have hnl := nums_length (f1 : Int) 0 ws
      refine ⟨_, rfl, _, rfl, fr, _, 0, _, rfl, rfl, sqL_of gfr, atI_nat (j := 0) rfl, a, _, _, .ref fq, rfl, rfl, sqL_of L3.at_, atI_nat (by rw [List.getElem?_map, hfq]; rfl), .inl ⟨rfl, _, sqL_of gq⟩, _, rfl, fq, _, _, rfl, rfl, gq, by rw [List.length_map]; omega, ?_⟩
      have Lp := L3.put hfq
      rw [hwl] at Lp
      have nfq : fq ≠ fr := fun z => nfr3 (z ▸ hfqm)
      have nfqb : b ≠ fq := fun z => nbf3 (z ▸ hfqm)
      have kp := k3.over (o := .lst ((numsFrom (f1 : Int) 0 ws).map V.int ++ [.int (i : Int)])) hd (hfr3 _ hfqm)
      have gfrp : upd G3 fq (.lst ((numsFrom (f1 : Int) 0 ws).map V.int ++ [.int (i : Int)])) fr = some (.lst (.int (f1 : Int) :: rest)) := by rw [upd_ne nfq.symm]; exact gfr
      have gbp : upd G3 fq (.lst ((numsFrom (f1 : Int) 0 ws).map V.int ++ [.int (i : Int)])) b = some (.lst ws) := by rw [upd_ne nfqb]; exact gb3
      refine ⟨_, rfl, .inl ⟨rfl, _, sqL_of gbp⟩, _, rfl, fr, _, 0, _, rfl, rfl, sqL_of gfrp, atI_nat (j := 0) rfl, b, _, _, rfl, rfl, gbp, by omega, ?_⟩
      refine ⟨_, _, _, _, _, _, _, fs', ws ++ [.int (f1 : Int)], rfl, kp.over hd nb0, Lp.off nba nbf3, upd_same, nbf3, hfr3, hfl3, ?_⟩
      rw [take_next hti]
      exact hLd.snoc (by omega) (by omega) (by omega) hfree
  · obtain ⟨_, _, _, _, _, _, _, fs, ws, rfl, kG, LG, gb, nbf, hfr, hfl, hLd⟩ := hG
    rw [hrl] at hfl
    rw [hrl, List.take_length] at hLd
    refine ⟨_, rfl, a, _, rfl, .inl (sqL_of LG.at_), _, rfl, b, _, rfl, .inl ⟨sqL_of gb, fun c nc => ?_⟩⟩
    refine ⟨by show 2 ≤ sizeLine; decide, fun u nu => ?_⟩
    obtain ⟨nuc, nu0⟩ := upd_none nu
    rw [List.length_map] at *
    exact q _ u c fs.length ws ((kG.new nc).new nu) (kG.k.dom _ nu0) (kG.k.dom _ nc) upd_same (by rw [upd_ne nuc.symm]; exact upd_same) (by omega) (by omega) hLd
theorem ok__law_in_layer {P : Program} {w : World} {K : PySem.W.Frag} {mg : Str → Option Value} {base : Heap} {tb : List Addr} {f : Addr} {fd : FuncData} (T : Blt mg) (D__law_in_layer : DefAt K mg "_law_in_layer" s_law_in_layer ["_law_web_here", "_law_layers", "_law_layer"] f fd) :
    FnOk P w K mg base CX0 1 f fd ["_law_web_here", "_law_layers", "_law_layer"] (sp__law_in_layer K tb) := by
  refine D__law_in_layer.ok sc__law_in_layer (fun vs H Q E h => by
    obtain ⟨v, n, ts, u, ws, f1, rfl, W, hu, hws, hlen, hlw, q⟩ := h
    all_goals rfl) fun A outer s H vs Q E hr h => ?_
  obtain ⟨v, n, ts, u, ws, f1, rfl, W, hu, hws, hlen, hlw, q⟩ := h
  refine ⟨_, pss_one (ps_ret (pe_lc (own := [("_law_tie_here", 3), ("_law_own", 4)]) rfl sc__law_in_layer.nd (RZ.pi_zipA (by rfl) T.b_zip (pa_cons (pe_ix (ix_tupK (K := K)) (pv 0) (pe_int) (fun _ _ => rfl)) (pa_cons (pv 1) pa_nil))) (blkOk_by (own := [("_law_tie_here", 3), ("_law_own", 4)]) (N := nm__law_in_layer) (sc := defScope s_law_in_layer) (by decide +kernel)) (fun _ _ _ _ _ => tgtK (K := K) (n := 2) (pgs_cons (pg_name (i := 3) sc__law_in_layer.nd rfl (.inl rfl)) (pgs_cons (pg_name (i := 4) sc__law_in_layer.nd rfl (.inl rfl)) pgs_nil))) (fun _ _ _ _ _ => pts_one (pt_cmpR op_eq (pv 4) (pv 2) (nomark _))) (fun _ _ _ _ _ => pv 3))), ?_⟩
  have LB := line_big
  obtain ⟨t, w, rs, rfl, ht, hw, hT⟩ := W
  have hrl := hT.length
  refine ⟨_, rfl, t, _, 1, _, rfl, rfl, sqT_of ht, atI_nat (j := 1) rfl, _, rfl, w, u, rs, ws, rfl, .inr ⟨sqT_of hw, sqT_of hu, fun D hD => ?_⟩⟩
  refine lc_it (walk_zipT (K := K) (a := w) (b := u) (xs := rs) (ys := ws) rfl) (fun i G => ∃ qs, Ke H G ∧ G D = some (.lst qs) ∧ Ties G qs (layerOf (ts.take i) (ws.take i) f1)) ⟨[], Ke.new hD, upd_same, .nil⟩ (fun i G _ hG => ?_) (fun i x G G' hi hG hy => ?_) (fun G hG => ?_)
  · obtain ⟨_, kG, _⟩ := hG
    exact ⟨sqT_of (kG.tup hw), sqT_of (kG.tup hu)⟩
  · obtain ⟨qs, kG, gD, gT⟩ := hG
    obtain ⟨T1, y1, y2, rfl, nT, rfl, e1, e2⟩ := hy
    have e1 : rs[i]? = some y1 := e1
    have e2 : ws[i]? = some y2 := e2
    obtain ⟨tt, qq, hti, rfl, hq⟩ := hT.get e1
    have hO := hws y2 (List.mem_of_getElem? e2)
    have il : i < ts.length := (List.getElem?_eq_some_iff.mp hti).1
    have en : layerOf (ts.take (i + 1)) (ws.take (i + 1)) f1 = layerOf (ts.take i) (ws.take i) f1 ++ if y2 = V.int f1 then [tt] else [] := by
      rw [take_next hti, take_next e2, layerOf_snoc (by rw [List.length_take, List.length_take]; omega)]
    refine ⟨T1, _, rfl, sqT_of upd_same, rfl, _, _, rfl, _, [], rfl, rfl, rfl, ?_⟩
    refine ⟨_, rfl, _, rfl, hO.scal f1, _, rfl, iteB (fun hb => ?_) (fun hb => ?_)⟩
    · have hb : y2 = V.int f1 := of_decide_eq_true hb
      refine ⟨_, rfl, qs, lst_new nT gD, ?_, qs ++ [.ref qq], (kG.trans (Ke.new nT)).over hD, upd_same, ?_⟩
      · rw [gT.length]
        have := layerOf_length (ts.take i) (ws.take i) f1
        rw [List.length_take] at this
        omega
      · rw [en, if_pos hb]
        exact ((gT.new nT).append (Ties.one (tup_new nT (kG.tup hq)))).put (lst_new nT gD)
    · have hb : ¬ y2 = V.int f1 := of_decide_eq_false hb
      exact ⟨qs, kG.trans (Ke.new nT), lst_new nT gD, by rw [en, if_neg hb, List.append_nil]; exact gT.new nT⟩
  · obtain ⟨qs, kG, gD, gT⟩ := hG
    rw [hrl, hlw, Nat.min_self, List.take_length, ← hlw, List.take_length] at gT
    exact q _ D qs kG hD gD gT
theorem ok__law_is_tight {P : Program} {w : World} {K : PySem.W.Frag} {mg : Str → Option Value} {base : Heap} {tb : List Addr} {f : Addr} {fd : FuncData} {f__law_within : Addr} {fd__law_within : FuncData} {f__law_in_layer : Addr} {fd__law_in_layer : FuncData} (T : Blt mg) (D__law_is_tight : DefAt K mg "_law_is_tight" s_law_is_tight ["_law_web_here", "_law_k", "_law_laying_here", "_law_lot"] f fd) (D__law_within : DefAt K mg "_law_within" s_law_within ["_law_web_here", "_law_lot"] f__law_within fd__law_within) (G__law_within : FnOk P w K mg base CX0 1 f__law_within fd__law_within ["_law_web_here", "_law_lot"] (sp__law_within K tb)) (D__law_in_layer : DefAt K mg "_law_in_layer" s_law_in_layer ["_law_web_here", "_law_layers", "_law_layer"] f__law_in_layer fd__law_in_layer) (G__law_in_layer : FnOk P w K mg base CX0 1 f__law_in_layer fd__law_in_layer ["_law_web_here", "_law_layers", "_law_layer"] (sp__law_in_layer K tb)) :
    FnOk P w K mg base CX0 2 f fd ["_law_web_here", "_law_k", "_law_laying_here", "_law_lot"] (sp__law_is_tight K tb) := by
  refine D__law_is_tight.ok sc__law_is_tight (fun vs H Q E h => by
    obtain ⟨v, n, ts, k, u, ws, a, ls, rfl, W, hu, hL, ha, hk0, hk1, hml, hn, he, q⟩ := h
    all_goals rfl) fun A outer s H vs Q E hr h => ?_
  obtain ⟨v, n, ts, k, u, ws, a, ls, rfl, W, hu, hL, ha, hk0, hk1, hml, hn, he, q⟩ := h
  refine ⟨_, pss_cons (ps_for PassesOwn.never rfl (pi_range1 (by rfl) T.b_range (pa_cons (pv 1) pa_nil)) (pg_name (i := 4) sc__law_is_tight.nd rfl (.inl rfl))
     (pss_one (ps_if (pt_cmpR op_ne (pe_call G__law_within (hr.mono (by decide)) (by rfl) D__law_within.g D__law_within.F.kp D__law_within.b .nil pass0 (pa_cons (pe_tup (pa_cons (pe_ix (ix_tupK (K := K)) (pv 0) (pe_int) (fun _ _ => rfl)) (pa_cons (pe_call G__law_in_layer (hr.mono (by decide)) (by rfl) D__law_in_layer.g D__law_in_layer.F.kp D__law_in_layer.b .nil pass0 (pa_cons (pv 0) (pa_cons (pv 2) (pa_cons (pv 4) pa_nil)))) pa_nil))) (pa_cons (pv 3) pa_nil))) (pe_op op_sub (pe_callB (lenK (K := K)) (by rfl) T.b_len PySem.boot_len (pa_cons (pv 3) pa_nil)) (pe_int)) (nomark _))
     (pss_one (ps_ret (pe_bl)))
     (pss_nil))))
     (pss_one (ps_ret (pe_bl))), ?_⟩
  have LB := line_big
  have W0 := W
  obtain ⟨t, w, rs, rfl, ht, hw, hT⟩ := W
  refine ⟨_, rfl, k, rfl, by omega, by omega, ?_⟩
  refine for_range (lo := 0) (n := k.toNat) (fun i σ G => ∃ (y4 : Option V), σ = [some (.ref t), some (.int k), some (.ref u), some (.ref a), y4] ∧ Ke H G ∧ ∀ f : Int, 0 ≤ f → f < (i : Int) → (inside ls (layerOf ts ws f) : Int) = (ls.length : Int) - 1) ⟨_, rfl, .refl, fun f h0 h1 => by omega⟩ (fun i σ G hi hG => ?_) (fun σ G hG => ?_)
  · obtain ⟨y4, rfl, kG, hf⟩ := hG
    rw [Int.zero_add]
    refine ⟨_, rfl, t, _, 0, _, rfl, rfl, sqT_of (kG.tup ht), atI_nat (j := 0) rfl, _, rfl, _, rfl, _, rfl, .ref t, n, ts, u, ws, (i : Int), rfl, W0.ke kG, kG.tup hu, hL.isO, hml, hL.len, fun G1 l qs k1 nl gl gT => ?_⟩
    refine ⟨by show 2 ≤ sizeLine; decide, fun p np => ?_⟩
    have k2 : Ke G (upd G1 p (.tup [.int n, .ref l])) := k1.trans (Ke.new np)
    refine ⟨_, rfl, .ref p, n, _, a, ls, rfl, .inr ⟨p, l, qs, rfl, upd_same, lst_new np gl, gT.new np⟩, Ke.tup (kG.trans k2) ha, ?_, fun G3 k3 => ?_⟩
    · have := layerOf_length ts ws (i : Int)
      omega
    refine ⟨_, rfl, a, _, rfl, .inr (sqT_of (Ke.tup (kG.trans (k2.trans k3)) ha)), _, _, rfl, rfl, rfl, _, rfl, ?_⟩
    rw [decide_int, List.length_map]
    by_cases e : (inside ls (layerOf ts ws (i : Int)) : Int) = (ls.length : Int) - 1
    · rw [decide_eq_true e]
      refine iteF ⟨_, rfl, kG.trans (k2.trans k3), fun f f0 f1 => ?_⟩
      by_cases ef : f = i
      · rw [ef]; exact e
      · exact hf f f0 (by omega)
    · rw [decide_eq_false e]
      refine iteT ?_
      have q0 := q _ (kG.trans (k2.trans k3))
      rw [decide_eq_false fun z => e ((tight_iff hL hk0 hn he).mp z i (by omega) (by omega))] at q0
      exact q0
  · obtain ⟨y4, rfl, kG, hf⟩ := hG
    have q0 := q _ kG
    rw [decide_eq_true ((tight_iff hL hk0 hn he).mpr fun f f0 f1 => hf f f0 (by omega))] at q0
    exact q0
theorem ok__law_tight_lots {P : Program} {w : World} {K : PySem.W.Frag} {mg : Str → Option Value} {base : Heap} {tb : List Addr} {f : Addr} {fd : FuncData} {f__law_lots : Addr} {fd__law_lots : FuncData} {f__law_is_tight : Addr} {fd__law_is_tight : FuncData} (T : Blt mg) (D__law_tight_lots : DefAt K mg "_law_tight_lots" s_law_tight_lots ["_law_web_here", "_law_k", "_law_laying_here"] f fd) (D__law_lots : DefAt K mg "_law_lots" s_law_lots ["_law_points"] f__law_lots fd__law_lots) (G__law_lots : FnOk P w K mg base CX0 1 f__law_lots fd__law_lots ["_law_points"] (sp__law_lots K tb)) (D__law_is_tight : DefAt K mg "_law_is_tight" s_law_is_tight ["_law_web_here", "_law_k", "_law_laying_here", "_law_lot"] f__law_is_tight fd__law_is_tight) (G__law_is_tight : FnOk P w K mg base CX0 2 f__law_is_tight fd__law_is_tight ["_law_web_here", "_law_k", "_law_laying_here", "_law_lot"] (sp__law_is_tight K tb)) :
    FnOk P w K mg base CX0 3 f fd ["_law_web_here", "_law_k", "_law_laying_here"] (sp__law_tight_lots K tb) := by
  refine D__law_tight_lots.ok sc__law_tight_lots (fun vs H Q E h => by
    obtain ⟨v, n, ts, k, u, ws, rfl, W, hn, hu, hL, hk0, hk1, hml, q⟩ := h
    all_goals rfl) fun A outer s H vs Q E hr h => ?_
  obtain ⟨v, n, ts, k, u, ws, rfl, W, hn, hu, hL, hk0, hk1, hml, q⟩ := h
  refine ⟨_, pss_one (ps_ret (pe_lc (own := [("_law_lot", 3)]) rfl sc__law_tight_lots.nd (pi_list (pe_call G__law_lots (hr.mono (by decide)) (by rfl) D__law_lots.g D__law_lots.F.kp D__law_lots.b .nil pass0 (pa_cons (pe_ix (ix_tupK (K := K)) (pv 0) (pe_int) (fun _ _ => rfl)) pa_nil))) (blkOk_by (own := [("_law_lot", 3)]) (N := nm__law_tight_lots) (sc := defScope s_law_tight_lots) (by decide +kernel)) (fun _ _ _ _ _ => pg_name (i := 3) sc__law_tight_lots.nd rfl (.inl rfl)) (fun _ _ _ _ _ => pts_one (PW.pt (pw_and (pt_cmpR op_gt (pe_callB (lenK (K := K)) (by rfl) T.b_len PySem.boot_len (pa_cons (pv 3) pa_nil)) (pe_int) (nomark _)) (pw_and1 (pt_val (pe_call G__law_is_tight (hr.mono (by decide)) (by rfl) D__law_is_tight.g D__law_is_tight.F.kp D__law_is_tight.b .nil pass0 (pa_cons (pv 0) (pa_cons (pv 1) (pa_cons (pv 2) (pa_cons (pv 3) pa_nil)))))))))) (fun _ _ _ _ _ => pv 3))), ?_⟩
  have LB := line_big
  obtain ⟨tw, w0, wr, rfl, htw, hw0, hT⟩ := id W
  refine ⟨_, rfl, tw, _, 0, _, rfl, rfl, sqT_of htw, atI_nat (j := 0) rfl, n, rfl, by omega, fun H1 l rs k1 nl hl hL1 => ?_⟩
  have k1' := k1
  obtain ⟨lots, elots⟩ : ∃ lots, lots = (lotsF n).filter fun l => !l.isEmpty := ⟨_, rfl⟩
  rw [← elots] at hL1
  refine ⟨l, rfl, ⟨_, sqL_of hl⟩, fun D hD => ?_⟩
  have hrl := hL1.length
  refine lc_list (K := K) (a := l) (xs := rs) (fun i G => ∃ xs, Ke H1 G ∧ G D = some (.lst xs) ∧ xs.length ≤ i ∧ Lots G xs ((lots.take i).filter fun l => decide (1 < l.length) && decide ((inside l (laidT ts ws) : Int) = k * ((l.length : Int) - 1)))) ⟨[], Ke.new hD, upd_same, Nat.le_refl _, .nil⟩ (fun i G _ hG => ?_) (fun i r G hr hG => ?_) (fun G hG => ?_)
  · obtain ⟨_, k, _⟩ := hG
    exact sqL_of (k.lst hl)
  · obtain ⟨xs, kG, gD, hxl, hX⟩ := hG
    obtain ⟨ls, q1, hls, rfl, hq1⟩ := hL1.get hr
    have hi : i < rs.length := (List.getElem?_eq_some_iff.mp hr).1
    have ef : ((lots.take (i + 1)).filter fun l => decide (1 < l.length) && decide ((inside l (laidT ts ws) : Int) = k * ((l.length : Int) - 1))) = ((lots.take i).filter fun l => decide (1 < l.length) && decide ((inside l (laidT ts ws) : Int) = k * ((l.length : Int) - 1))) ++ [ls].filter fun l => decide (1 < l.length) && decide ((inside l (laidT ts ws) : Int) = k * ((l.length : Int) - 1)) := by
      rw [take_next hls]
      exact List.filter_append ..
    refine ⟨rfl, _, rfl, q1, _, rfl, .inr (sqT_of (kG.tup hq1)), _, _, rfl, rfl, ?_⟩
    have hmem : ls ∈ (lotsF n).filter fun l => !l.isEmpty := by
      rw [← elots]
      exact List.mem_of_getElem? hls
    obtain ⟨hm1, hm2⟩ := List.mem_filter.mp hmem
    obtain ⟨o1, _, _⟩ := lotsF_ok n ls hm1
    have hne : ls ≠ [] := fun z => by rw [z] at hm2; cases hm2
    have hnd : ls.Nodup := o1.imp fun z => by omega
    have hll : lots.length ≤ 2 ^ n := by
      rw [elots, ← lotsF_len n]
      exact List.length_filter_le _ _
    have hpw : 2 ^ n ≤ 2 ^ 10 := Nat.pow_le_pow_right (by decide) hn
    have k01 := k1.trans kG
    refine ⟨decide (1 < ls.length), ?_, iteB (fun h1 => ?_) (fun h1 => ?_)⟩
    · show V.bl (decide ((1 : Int) < ((ls.map V.int).length : Int))) = _
      rw [List.length_map]
      exact congrArg V.bl (decide_eq_decide.mpr (by omega))
    · refine ⟨_, rfl, _, rfl, _, rfl, _, rfl, .ref tw, n, ts, k, u, ws, q1, ls, rfl, W.ke k01, Ke.tup k01 hu, hL, kG.tup hq1, hk0, by omega, hml, hnd, hne, fun G2 k2 => ⟨_, rfl, iteB (fun h2 => ?_) (fun h2 => ?_)⟩⟩
      · have gD2 := k2.lst gD
        refine ⟨_, rfl, _, gD2, by omega, _, (kG.trans k2).over hD, upd_same, by rw [List.length_append]; show xs.length + 1 ≤ i + 1; omega, ?_⟩
        rw [ef, List.filter_cons_of_pos (p := fun l => decide (1 < l.length) && decide ((inside l (laidT ts ws) : Int) = k * ((l.length : Int) - 1))) (by rw [h1, h2]; rfl)]
        exact ((hX.ke k2).append (Lots.one (Ke.tup (kG.trans k2) hq1))).put gD2
      · refine ⟨_, kG.trans k2, k2.lst gD, by omega, ?_⟩
        rw [ef, List.filter_cons_of_neg (p := fun l => decide (1 < l.length) && decide ((inside l (laidT ts ws) : Int) = k * ((l.length : Int) - 1))) (by rw [h1, h2]; decide), List.filter_nil, List.append_nil]
        exact hX.ke k2
    · refine ⟨_, kG, gD, by omega, ?_⟩
      rw [ef, List.filter_cons_of_neg (p := fun l => decide (1 < l.length) && decide ((inside l (laidT ts ws) : Int) = k * ((l.length : Int) - 1))) (by rw [h1, Bool.false_and]; decide), List.filter_nil, List.append_nil]
      exact hX
  · obtain ⟨xs, kG, gD, hxl, hX⟩ := hG
    rw [hrl, List.take_length] at hX
    refine q _ D xs (k1.trans kG) (k1.dom _ hD) gD ?_
    rw [elots] at hX
    exact hX
theorem ok__law_is_part {P : Program} {w : World} {K : PySem.W.Frag} {mg : Str → Option Value} {base : Heap} {tb : List Addr} {f : Addr} {fd : FuncData} (T : Blt mg) (D__law_is_part : DefAt K mg "_law_is_part" s_law_is_part ["_law_lot", "_law_other"] f fd) :
    FnOk P w K mg base CX0 1 f fd ["_law_lot", "_law_other"] (sp__law_is_part K tb) := by
  refine D__law_is_part.ok sc__law_is_part (fun vs H Q E h => by
    obtain ⟨a, b, xs, ys, rfl, ha, hb, hl, q⟩ := h
    all_goals rfl) fun A outer s H vs Q E hr h => ?_
  obtain ⟨a, b, xs, ys, rfl, ha, hb, hl, q⟩ := h
  refine ⟨_, pss_one (ps_ret (pe_and (pe_cmpR (neDK (K := K) hr.units) (pv 0) (pv 1) (nomark _)) (pe_one (pe_cmpR (eqDK (K := K) hr.units) (pe_lc (own := [("_law_k", 2)]) rfl sc__law_is_part.nd (pi_tup (pv 0)) (blkOk_by (own := [("_law_k", 2)]) (N := nm__law_is_part) (sc := defScope s_law_is_part) (by decide +kernel)) (fun _ _ _ _ _ => pg_name (i := 2) sc__law_is_part.nd rfl (.inl rfl)) (fun _ _ _ _ _ => pts_one (pt_cmpR (notIn_seqK (K := K)) (pv 2) (pv 1) (by rfl))) (fun _ _ _ _ _ => pv 2)) (pe_lst pa_nil) (nomark _))))), ?_⟩
  have LB := line_big
  refine ⟨_, rfl, _, rfl, .tuple (xs.map PyData.int), .tuple (ys.map PyData.int), .tup (sqT_of ha) (dp_ints _), .tup (sqT_of hb) (dp_ints _), shaped_tints _, shaped_tints _, ?_⟩
  rw [eqv_itups]
  refine ⟨_, rfl, iteB (fun hne => ?_) (fun heq => ?_)⟩
  · refine ⟨_, rfl, a, rfl, ⟨_, sqT_of ha⟩, fun D hD => ?_⟩
    refine lc_tup (K := K) (a := a) (xs := xs.map V.int) (fun i G => Ke H G ∧ G D = some (.lst (((xs.take i).filter fun x => !decide (x ∈ ys)).map V.int))) ⟨Ke.new hD, upd_same⟩ (fun i G _ hG => sqT_of (hG.1.tup ha)) (fun i r G hr hG => ?_) (fun G hG => ?_)
    · obtain ⟨kG, gD⟩ := hG
      obtain ⟨x, hx, rfl⟩ := int_at hr
      have ef : ((xs.take (i + 1)).filter fun x => !decide (x ∈ ys)) = ((xs.take i).filter fun x => !decide (x ∈ ys)) ++ [x].filter fun x => !decide (x ∈ ys) := by
        rw [take_next hx]
        exact List.filter_append ..
      have hfl : ((xs.take i).filter fun x => !decide (x ∈ ys)).length ≤ xs.length := Nat.le_trans (List.length_filter_le _ _) (List.length_take_le' _ _)
      refine ⟨rfl, _, rfl, _, rfl, b, _, rfl, .inr (sqT_of (kG.tup hb)), rfl, flat_ints ys, ?_⟩
      rw [show (if true = true then !inV (.int x) (ys.map V.int) else inV (.int x) (ys.map V.int)) = !inV (.int x) (ys.map V.int) from rfl, inV_int]
      refine ⟨_, rfl, iteB (fun hb => ?_) (fun hb => ?_)⟩
      · refine ⟨_, rfl, _, gD, by rw [List.length_map]; omega, kG.over hD, ?_⟩
        rw [upd_same, ef, List.filter_cons_of_pos (p := fun x => !decide (x ∈ ys)) hb, List.map_append]
        rfl
      · refine ⟨kG, ?_⟩
        rw [ef, List.filter_cons_of_neg (p := fun x => !decide (x ∈ ys)) (by rw [hb]; decide), List.filter_nil, List.append_nil]
        exact gD
    · obtain ⟨kG, gD⟩ := hG
      rw [List.length_map, List.take_length] at gD
      refine ⟨by show 0 ≤ sizeLine; decide, fun z nz => ?_⟩
      refine ⟨.list ((xs.filter fun x => !decide (x ∈ ys)).map PyData.int), .list [], .lst (sqL_of (lst_new nz gD)) (dp_ints _), .lst (sqL_of upd_same) .nil, PySem.W.shaped_ints _, PySem.W.shaped_ints [], ?_⟩
      rw [eqv_list0]
      have e : inLotB xs ys = ((xs.filter fun x => !decide (x ∈ ys)).map PyData.int).isEmpty := by
        unfold inLotB
        rw [hne, Bool.true_and, all_filter]
      rw [← e]
      exact q _ (kG.trans (Ke.new nz))
  · have q0 := q H .refl
    rw [show inLotB xs ys = false by unfold inLotB; rw [heq]; rfl] at q0
    exact q0
theorem ok__law_greatest {P : Program} {w : World} {K : PySem.W.Frag} {mg : Str → Option Value} {base : Heap} {tb : List Addr} {f : Addr} {fd : FuncData} {f__law_is_part : Addr} {fd__law_is_part : FuncData} (T : Blt mg) (D__law_greatest : DefAt K mg "_law_greatest" s_law_greatest ["_law_lots_here"] f fd) (D__law_is_part : DefAt K mg "_law_is_part" s_law_is_part ["_law_lot", "_law_other"] f__law_is_part fd__law_is_part) (G__law_is_part : FnOk P w K mg base CX0 1 f__law_is_part fd__law_is_part ["_law_lot", "_law_other"] (sp__law_is_part K tb)) :
    FnOk P w K mg base CX0 2 f fd ["_law_lots_here"] (sp__law_greatest K tb) := by
  refine D__law_greatest.ok sc__law_greatest (fun vs H Q E h => by
    obtain ⟨l, rs, lots, rfl, hl, hL, hn, hm, q⟩ := h
    all_goals rfl) fun A outer s H vs Q E hr h => ?_
  obtain ⟨l, rs, lots, rfl, hl, hL, hn, hm, q⟩ := h
  refine ⟨_, pss_one (ps_ret (pe_lc (own := [("_law_lot", 1)]) rfl sc__law_greatest.nd (pi_list (pv 0)) (blkOk_by (own := [("_law_lot", 1)]) (N := nm__law_greatest) (sc := defScope s_law_greatest) (by decide +kernel)) (fun _ _ _ _ _ => pg_name (i := 1) sc__law_greatest.nd rfl (.inr rfl)) (fun _ _ _ _ _ => pts_one (pt_cmpR (eqDK (K := K) hr.units) (pe_lc (own := [("_law_other", 2)]) rfl sc__law_greatest.nd ((pi_listK (K := K)) (pv 0)) (blkOk_by (own := [("_law_other", 2)]) (N := nm__law_greatest) (sc := relS csc__law_greatest_1_11 (defScope s_law_greatest)) (by decide +kernel)) (fun _ _ _ _ _ => pg_name (i := 2) sc__law_greatest.nd rfl (.inl rfl)) (fun _ _ _ _ _ => pts_one (pt_val (pe_call G__law_is_part (hr.mono (by decide)) (by rfl) D__law_is_part.g D__law_is_part.F.kp D__law_is_part.b .nil pass0 (pa_cons (pv 1) (pa_cons (pv 2) pa_nil))))) (fun _ _ _ _ _ => pe_int)) (pe_lst pa_nil) (nomark _))) (fun _ _ _ _ _ => pv 1))), ?_⟩
  have LB := line_big
  refine ⟨_, rfl, l, rfl, ⟨_, sqL_of hl⟩, fun D hD => ?_⟩
  refine lc_list (K := K) (a := l) (xs := rs) (fun i G => ∃ xs, Ke H G ∧ G D = some (.lst xs) ∧ xs.length ≤ i ∧ Lots G xs ((lots.take i).filter fun l => (lots.filter (inLotB l)).isEmpty)) ⟨[], Ke.new hD, upd_same, Nat.le_refl _, .nil⟩ (fun i G _ hG => ?_) (fun i r G hr hG => ?_) (fun G hG => ?_)
  · obtain ⟨_, k, _⟩ := hG
    exact sqL_of (k.lst hl)
  · obtain ⟨xs, kG, gD, hxl, hX⟩ := hG
    obtain ⟨ls, q1, hls, rfl, hq1⟩ := hL.get hr
    have hi : i < rs.length := (List.getElem?_eq_some_iff.mp hr).1
    have hrl := hL.length
    have ef : ((lots.take (i + 1)).filter fun l => (lots.filter (inLotB l)).isEmpty) = ((lots.take i).filter fun l => (lots.filter (inLotB l)).isEmpty) ++ [ls].filter fun l => (lots.filter (inLotB l)).isEmpty := by
      rw [take_next hls]
      exact List.filter_append ..
    have hl1 := hm ls (List.mem_of_getElem? hls)
    refine ⟨rfl, _, rfl, l, rfl, ⟨_, sqL_of (kG.lst hl)⟩, fun D2 hD2 => ?_⟩
    refine lc_list (K := K) (a := l) (xs := rs) (fun j G2 => ∃ zs, Ke G G2 ∧ G2 D2 = some (.lst zs) ∧ zs = List.replicate ((lots.take j).filter (inLotB ls)).length (V.int 1)) ⟨[], Ke.new hD2, upd_same, rfl⟩ (fun j G2 _ hG2 => ?_) (fun j r2 G2 hr2 hG2 => ?_) (fun G2 hG2 => ?_)
    · obtain ⟨_, k, _⟩ := hG2
      exact sqL_of (Ke.lst (kG.trans k) hl)
    · obtain ⟨zs, k2, gD2, rfl⟩ := hG2
      obtain ⟨l2, q2, hl2, rfl, hq2⟩ := hL.get hr2
      have kk := kG.trans k2
      have ef2 : (lots.take (j + 1)).filter (inLotB ls) = (lots.take j).filter (inLotB ls) ++ [l2].filter (inLotB ls) := by
        rw [take_next hl2]
        exact List.filter_append ..
      have hfl : ((lots.take j).filter (inLotB ls)).length ≤ lots.length := Nat.le_trans (List.length_filter_le _ _) (List.length_take_le' _ _)
      refine ⟨rfl, _, rfl, _, rfl, q1, q2, ls, l2, rfl, Ke.tup kk hq1, Ke.tup kk hq2, hl1, fun G3 k3 => ?_⟩
      have gD3 := k3.lst gD2
      refine ⟨_, rfl, iteB (fun hb => ?_) (fun hb => ?_)⟩
      · refine ⟨_, gD3, by rw [List.length_replicate]; omega, _, (k2.trans k3).over hD2, upd_same, ?_⟩
        rw [ef2, List.filter_cons_of_pos hb, List.filter_nil, List.length_append]
        exact (List.replicate_succ' ..).symm
      · refine ⟨_, k2.trans k3, gD3, ?_⟩
        rw [ef2, List.filter_cons_of_neg (by rw [hb]; decide), List.filter_nil, List.append_nil]
    · obtain ⟨zs, k2, gD2, rfl⟩ := hG2
      rw [hrl, List.take_length] at gD2
      refine ⟨by show 0 ≤ sizeLine; decide, fun z nz => ?_⟩
      have kz := k2.trans (Ke.new (S := fun _ => False) (o := .lst []) nz)
      refine ⟨.list ((List.replicate (lots.filter (inLotB ls)).length (1 : Int)).map PyData.int), .list [], .lst (sqL_of (lst_new nz gD2)) (by rw [← List.map_replicate]; exact dp_ints _), .lst (sqL_of upd_same) .nil, PySem.W.shaped_ints _, PySem.W.shaped_ints [], ?_⟩
      rw [eqv_list0]
      have e : ((List.replicate (lots.filter (inLotB ls)).length (1 : Int)).map PyData.int).isEmpty = (lots.filter (inLotB ls)).isEmpty := by
        cases lots.filter (inLotB ls) <;> rfl
      rw [e]
      have gDz := Ke.lst kz gD
      refine ⟨_, rfl, iteB (fun hb => ?_) (fun hb => ?_)⟩
      · refine ⟨_, rfl, _, gDz, by omega, _, (kG.trans kz).over hD, upd_same, by rw [List.length_append]; show xs.length + 1 ≤ i + 1; omega, ?_⟩
        rw [ef, List.filter_cons_of_pos (p := fun l => (lots.filter (inLotB l)).isEmpty) hb]
        exact ((hX.ke kz).append (Lots.one (Ke.tup (kG.trans kz) hq1))).put gDz
      · refine ⟨_, kG.trans kz, gDz, by omega, ?_⟩
        rw [ef, List.filter_cons_of_neg (p := fun l => (lots.filter (inLotB l)).isEmpty) (by rw [hb]; decide), List.filter_nil, List.append_nil]
        exact hX.ke kz
  · obtain ⟨xs, kG, gD, hxl, hX⟩ := hG
    rw [hL.length, List.take_length] at hX
    exact q _ D xs kG hD gD hX
theorem ok_law {P : Program} {w : World} {K : PySem.W.Frag} {mg : Str → Option Value} {base : Heap} {tb : List Addr} {f : Addr} {fd : FuncData} {f_brims_of : Addr} {fd_brims_of : FuncData} {f__law_deck : Addr} {fd__law_deck : FuncData} {f__law_web : Addr} {fd__law_web : FuncData} {f__law_laying : Addr} {fd__law_laying : FuncData} {f__law_tight_lots : Addr} {fd__law_tight_lots : FuncData} {f__law_greatest : Addr} {fd__law_greatest : FuncData} (T : Blt mg) (D_law : DefAt K mg "law" s_law ["_law_script"] f fd) (D_brims_of : DefAt K mg "brims_of" s_brims_of ["web", "k", "laying"] f_brims_of fd_brims_of) (G_brims_of : FnOk P w K mg base CX0 10 f_brims_of fd_brims_of ["web", "k", "laying"] (sp_brims_of K tb)) (D__law_deck : DefAt K mg "_law_deck" s_law_deck ["_law_script", "_law_many"] f__law_deck fd__law_deck) (G__law_deck : FnOk P w K mg base CX0 2 f__law_deck fd__law_deck ["_law_script", "_law_many"] (sp__law_deck K tb)) (D__law_web : DefAt K mg "_law_web" s_law_web ["_law_deck_here", "_law_points", "_law_most"] f__law_web fd__law_web) (G__law_web : FnOk P w K mg base CX0 4 f__law_web fd__law_web ["_law_deck_here", "_law_points", "_law_most"] (sp__law_web K tb)) (D__law_laying : DefAt K mg "_law_laying" s_law_laying ["_law_deck_here", "_law_web_here"] f__law_laying fd__law_laying) (G__law_laying : FnOk P w K mg base CX0 3 f__law_laying fd__law_laying ["_law_deck_here", "_law_web_here"] (sp__law_laying K tb)) (D__law_tight_lots : DefAt K mg "_law_tight_lots" s_law_tight_lots ["_law_web_here", "_law_k", "_law_laying_here"] f__law_tight_lots fd__law_tight_lots) (G__law_tight_lots : FnOk P w K mg base CX0 3 f__law_tight_lots fd__law_tight_lots ["_law_web_here", "_law_k", "_law_laying_here"] (sp__law_tight_lots K tb)) (D__law_greatest : DefAt K mg "_law_greatest" s_law_greatest ["_law_lots_here"] f__law_greatest fd__law_greatest) (G__law_greatest : FnOk P w K mg base CX0 2 f__law_greatest fd__law_greatest ["_law_lots_here"] (sp__law_greatest K tb)) :
    FnOk P w K mg base CX0 11 f fd ["_law_script"] (sp_law K tb) := by
  refine D_law.ok sc_law (fun vs H Q E h => by
    obtain ⟨a, ns, rfl, hS, hlen, hTb, q⟩ := h
    all_goals rfl) fun A outer s H vs Q E hr h => ?_
  obtain ⟨a, ns, rfl, hS, hlen, hTb, q⟩ := h
  refine ⟨_, pss_cons (ps_set (i := 1) sc_law.nd rfl (.inl rfl) (pe_call G__law_deck (hr.mono (by decide)) (by rfl) D__law_deck.g D__law_deck.F.kp D__law_deck.b .nil pass0 (pa_cons (pv 0) (pa_cons (pe_int) pa_nil))))
     (pss_cons (ps_set (i := 2) sc_law.nd rfl (.inl rfl) (pe_lst pa_nil))
     (pss_cons (ps_for PassesOwn.never rfl (pi_range1 (by rfl) T.b_range (pa_cons (pe_int) pa_nil)) (pg_name (i := 3) sc_law.nd rfl (.inl rfl))
     (pss_cons (ps_set (i := 4) sc_law.nd rfl (.inl rfl) (pe_call G__law_web (hr.mono (by decide)) (by rfl) D__law_web.g D__law_web.F.kp D__law_web.b .nil pass0 (pa_cons (pv 1) (pa_cons (pe_int) (pa_cons (pe_int) pa_nil)))))
     (pss_cons (ps_asg (pe_call G__law_laying (hr.mono (by decide)) (by rfl) D__law_laying.g D__law_laying.F.kp D__law_laying.b .nil pass0 (pa_cons (pv 1) (pa_cons (pv 4) pa_nil))) (tgtK (K := K) (n := 2) (pgs_cons (pg_name (i := 5) sc_law.nd rfl (.inl rfl)) (pgs_cons (pg_name (i := 6) sc_law.nd rfl (.inl rfl)) pgs_nil))))
     (pss_one (ps_for PassesOwn.never rfl (pi_list (pe_lst (pa_cons (pv 5) (pa_cons (pe_op op_add (pv 5) (pe_int)) pa_nil)))) (pg_name (i := 7) sc_law.nd rfl (.inl rfl))
     (pss_cons (ps_set (i := 8) sc_law.nd rfl (.inl rfl) (pe_callB (cr_sortedL hr.units) (by rfl) T.b_sorted (by decide +kernel) (pa_cons (pe_call G__law_greatest (hr.mono (by decide)) (by rfl) D__law_greatest.g D__law_greatest.F.kp D__law_greatest.b .nil pass0 (pa_cons (pe_call G__law_tight_lots (hr.mono (by decide)) (by rfl) D__law_tight_lots.g D__law_tight_lots.F.kp D__law_tight_lots.b .nil pass0 (pa_cons (pv 4) (pa_cons (pv 7) (pa_cons (pv 6) pa_nil)))) pa_nil)) pa_nil)))
     (pss_cons (ps_set (i := 9) sc_law.nd rfl (.inl rfl) (pe_call G_brims_of (hr.mono (by decide)) (by rfl) D_brims_of.g D_brims_of.F.kp D_brims_of.b .nil pass0 (pa_cons (pv 4) (pa_cons (pv 7) (pa_cons (pv 6) pa_nil)))))
     (pss_cons (ps_expr (pe_bm PySem.F.plainAttrs_list PySem.F.slot_list_append PySem.F.type_list_append mt_append (pv 2) (pa_cons (pe_tup (pa_cons (pv 4) (pa_cons (pv 7) (pa_cons (pv 6) (pa_cons (pv 9) pa_nil))))) pa_nil)))
     (pss_cons (ps_if (PW.pt (pw_or (pt_not (pt_val (pe_callB (isiK (K := K)) (by rfl) T.b_isinstance (by decide +kernel) (pa_cons (pv 9) (pa_cons (pe_bltn (v := .ty "tuple") (u := .type "tuple") (by rfl) T.b_tuple (by decide +kernel) rfl) pa_nil))))) (pw_or1 (pt_cmpR (neDK (K := K) hr.units) (pv 9) (pe_callTy (tupleK (K := K)) (by rfl) T.b_tuple (by decide +kernel) (pa_cons (pv 8) pa_nil)) (nomark _)))))
     (pss_one (ps_ret (pe_bl)))
     (pss_nil))
     (pss_one (ps_if (pt_cmpR op_ne (pe_callB (sumK (K := K) rfl) (by rfl) T.b_sum (by decide +kernel) (pa_cons (pe_lc (own := [("_law_lot", 10)]) rfl sc_law.nd (pi_tup (pv 9)) (blkOk_by (own := [("_law_lot", 10)]) (N := nm_law) (sc := defScope s_law) (by decide +kernel)) (fun _ _ _ _ _ => pg_name (i := 10) sc_law.nd rfl (.inl rfl)) (fun _ _ _ _ _ => pts_nil) (fun _ _ _ _ _ => pe_callB (lenK (K := K)) (by rfl) T.b_len PySem.boot_len (pa_cons (pv 10) pa_nil))) pa_nil)) (pe_lenSetL (by rfl) T.b_len (by rfl) T.b_set (pe_callB (cr_sumL (K := K) rfl) (by rfl) T.b_sum (by decide +kernel) (pa_cons (pe_lc (own := [("_law_lot", 10)]) rfl sc_law.nd (pi_tup (pv 9)) (blkOk_by (own := [("_law_lot", 10)]) (N := nm_law) (sc := defScope s_law) (by decide +kernel)) (fun _ _ _ _ _ => pg_name (i := 10) sc_law.nd rfl (.inl rfl)) (fun _ _ _ _ _ => pts_nil) (fun _ _ _ _ _ => pe_callTy (listK (K := K)) (by rfl) T.b_list (by decide +kernel) (pa_cons (pv 10) pa_nil))) (pa_cons (pe_lst pa_nil) pa_nil)))) (nomark _))
     (pss_one (ps_ret (pe_bl)))
     (pss_nil))))))))))))
     (pss_one (ps_ret (pe_cmpR (eqDK (K := K) hr.units) (pe_lc (own := [("_law_web_here", 4), ("_law_k", 7), ("_law_laying_here", 6), ("_law_found", 9)]) rfl sc_law.nd (pi_list (pv 2)) (blkOk_by (own := [("_law_web_here", 4), ("_law_k", 7), ("_law_laying_here", 6), ("_law_found", 9)]) (N := nm_law) (sc := defScope s_law) (by decide +kernel)) (fun _ _ _ _ _ => tgtK (K := K) (n := 4) (pgs_cons (pg_name (i := 4) sc_law.nd rfl (.inl rfl)) (pgs_cons (pg_name (i := 7) sc_law.nd rfl (.inl rfl)) (pgs_cons (pg_name (i := 6) sc_law.nd rfl (.inl rfl)) (pgs_cons (pg_name (i := 9) sc_law.nd rfl (.inl rfl)) pgs_nil))))) (fun _ _ _ _ _ => pts_one (pt_cmpR (neDK (K := K) hr.units) (pe_call G_brims_of (hr.mono (by decide)) (by rfl) D_brims_of.g D_brims_of.F.kp D_brims_of.b .nil pass0 (pa_cons (pv 4) (pa_cons (pv 7) (pa_cons (pv 6) pa_nil)))) (pv 9) (nomark _))) (fun _ _ _ _ _ => pe_int)) (pe_lst pa_nil) (nomark _)))))), ?_⟩
  have LB := line_big
  refine ⟨_, rfl, a, ns, 400, rfl, hS, hlen, by decide, by decide, fun p G0 np k0 hd => ?_⟩
  have hT0 : Tabs tb G0 := hTb.kx k0
  refine ⟨by show 0 ≤ sizeLine; decide, fun S nS => ?_⟩
  have kS := Ke.new (S := fun _ => False) (o := .lst []) nS
  have gS0 : (upd G0 S (.lst [])) S = some (.lst []) := upd_same
  have dS := hd.ke kS
  have tS := hT0.kx kS
  have Sp_ : S ≠ p := (hd.ne nS).symm
  clear kS
  generalize upd G0 S _ = GS at *
  refine ⟨3, rfl, by decide, by decide, ?_⟩
  refine for_range (lo := 0) (n := 3) (fun i σ G => ∃ (y3 y4 y5 y6 y7 y8 y9 y10 : Option V) (xs : List V), σ = [some (.ref a), some (.ref p), some (.ref S), y3, y4, y5, y6, y7, y8, y9, y10] ∧ Deck G p ∧ Tabs tb G ∧ G S = some (.lst xs) ∧ (∀ x ∈ xs, AskB G x) ∧ xs.length ≤ 2 * i) ⟨_, _, _, _, _, _, _, _, [], rfl, dS, tS, gS0, (fun _ z => nomatch z), Nat.zero_le _⟩ (fun i σ G hi hG => ?_) (fun σ G hG => ?_)
  · obtain ⟨y3, y4, y5, y6, y7, y8, y9, y10, xs, rfl, dG, tG, gS, hxs, hxl⟩ := hG
    refine ⟨_, rfl, p, 6, 10, rfl, dG, by decide, by decide, by decide, by decide, fun H1 v n' ts k1 W n1 n2 hl hok => ?_⟩
    have d1 := k1.d
    refine ⟨_, rfl, _, rfl, p, v, n', ts, rfl, d1, W, hok, by omega, by omega, by omega, fun H2 u c m ws k2 nu nc hu hc m0 m1 hLd => ?_⟩
    have d2 := k2.d
    refine ⟨u, _, rfl, sqT_of hu, rfl, _, _, rfl, _, [], rfl, rfl, ?_⟩
    have W2 := W.dk k2 d1
    have t2 := (tG.dk k1).dk k2
    have gS2 := k2.lst (k1.lst gS Sp_) Sp_
    have hx2 : ∀ x ∈ xs, AskB H2 x := fun x hx => (hxs x hx).mono fun q xs e => k2.tup d1 (k1.tup dG e)
    obtain ⟨n, rfl⟩ : ∃ n : Nat, n' = (n : Int) := ⟨n'.toNat, by omega⟩
    obtain ⟨tw, w0, rrs, rfl, htw, hw0, hTt⟩ := id W2
    refine ⟨_, rfl, _, rfl, _, _, rfl, rfl, by show 2 ≤ sizeLine; decide, fun l nl => ?_⟩
    have kl := Ke.new (S := fun _ => False) (o := .lst [.int m, .int (m + 1)]) nl
    have gl0 : (upd H2 l (.lst [.int m, .int (m + 1)])) l = some (.lst [.int m, .int (m + 1)]) := upd_same
    have gSl := Ke.lst kl gS2
    have Sl : l ≠ S := (ne_of_none gS2 nl).symm
    have dl := d2.ke kl
    have tl := t2.kx kl
    have Wl := W2.ke kl
    have hcl := Ke.tup kl hc
    have hxl' : ∀ x ∈ xs, AskB (upd H2 l (.lst [.int m, .int (m + 1)])) x := fun x hx => (hx2 x hx).mono fun q xs e => Ke.tup kl e
    clear kl d1 W W2 htw hw0 hTt hu k1 k2
    generalize upd H2 l _ = Hl at *
    refine ⟨l, rfl, ⟨_, sqL_of gl0⟩, ?_⟩
    refine for_list (K := K) (a := l) (xs := [.int m, .int (m + 1)]) (fun j σ G => ∃ (y7 y8 y9 y10 : Option V) (xs : List V), σ = [some (.ref a), some (.ref p), some (.ref S), some (.int (0 + (i : Int))), some (.ref tw), some (.int m), some (.ref c), y7, y8, y9, y10] ∧ Kx (fun b => b = S) Hl G ∧ G S = some (.lst xs) ∧ (∀ x ∈ xs, AskB G x) ∧ xs.length ≤ 2 * i + j) ⟨_, _, _, _, xs, rfl, .refl, gSl, hxl', by omega⟩ (fun j σ G _ hG => ?_) (fun j kv σ G hkv hG => ?_) (fun σ G hG => ?_)
    · obtain ⟨_, _, _, _, _, _, kG, _⟩ := hG
      exact sqL_of (kG.at_ _ _ gl0 (fun _ z => nomatch z) Sl)
    · obtain ⟨y7, y8, y9, y10, xs, rfl, kG, gS, hxs, hxl⟩ := hG
      have hjl := (List.getElem?_eq_some_iff.mp hkv).1
      have hjl : j < 2 := hjl
      obtain ⟨k, rfl, k0', k1'⟩ : ∃ k : Int, kv = .int k ∧ m ≤ k ∧ k ≤ m + 1 := by
        match j, hkv with
        | 0, h => cases h; exact ⟨m, rfl, by omega, by omega⟩
        | 1, h => cases h; exact ⟨m + 1, rfl, by omega, by omega⟩
        | j + 2, h => simp at h
      have hLk : Laid ts k ws := ⟨hLd.len, fun x hx => by
        obtain ⟨j, e, a, b⟩ := hLd.num x hx
        exact ⟨j, e, a, by omega⟩, hLd.tree⟩
      have hL := hLk.k
      have tk : ∀ q ys, Hl q = some (.tup ys) → G q = some (.tup ys) := fun q ys e => kG.tup e (ne_of e gSl fun z => nomatch z)
      have W3 := Wl.mono tk
      have hc3 := tk _ _ hcl
      have t3 := tl.kx kG
      have hk0 : 0 ≤ k := by omega
      have hn2 : n ≤ 6 := by omega
      have hfl : (tightF n ts k ws).length ≤ 64 := Nat.le_trans tightF_len (Nat.pow_le_pow_right (by decide) hn2)
      have hgl : (greatF (tightF n ts k ws)).length ≤ 64 := Nat.le_trans (List.length_filter_le _ _) hfl
      have hmt : ∀ ls, ls ∈ tightF n ts k ws ↔ TightL ts (n : Int) k ws ls ∧ 2 ≤ ls.length := fun ls => mem_tightF hL hk0
      have hml : ∀ ls ∈ tightF n ts k ws, ls.length ≤ n := fun ls h => by
        have h1 := ((hmt ls).mp h).1.lot
        have := nd_le h1.nd (m := upTo n) fun x hx => upTo_mem.mpr (h1.ok x hx)
        rw [upTo_length] at this
        omega
      refine ⟨_, rfl, _, rfl, _, rfl, .ref tw, n, ts, k, c, ws, rfl, W3, by omega, hc3, hL, hk0, by omega, by omega, fun H3 pe xe k3 npe gpe hLe => ?_⟩
      refine ⟨pe, xe, tightF n ts k ws, rfl, gpe, hLe, by omega, (fun ls h => by have := hml ls h; omega), fun H4 pg xg k4 npg gpg hLg => ?_⟩
      refine ⟨pg, xg, _, rfl, sqL_of gpg, hLg, fun ls h e => by have := ((hmt ls).mp (mem_great.mp h).1).2; rw [e] at this; exact absurd this (by decide), fun ys ms sp hy hp ho nsp => ?_⟩
      have k34 := k3.trans (k4.trans (Ke.new (o := .lst ys) nsp))
      have gsp : (upd H4 sp (.lst ys)) sp = some (.lst ys) := upd_same
      have hy5 := hy.ke (Ke.new (S := fun _ => False) (o := .lst ys) nsp)
      generalize upd H4 sp _ = H5 at *
      refine ⟨_, rfl, _, rfl, _, rfl, .ref tw, n, ts, k, c, ws, rfl, W3.ke k34, hok, n1, by omega, by omega, hk0, by omega, Ke.tup k34 hc3, hL, t3.kx k34, fun H6 x rs lots rows k6 hI hx hLx => ?_⟩
      have hLx : Lots H6 rs (bF lots (n : Int)) := hLx
      have k36 := k34.trans k6
      have gS6 := Ke.lst k36 gS
      have hx6 : ∀ x ∈ xs, AskB H6 x := fun x hx => (hxs x hx).mono fun q ys e => Ke.tup k36 e
      have W6 := W3.ke k36
      have hc6 := Ke.tup k36 hc3
      have t6 := t3.kx k36
      have gsp6 := Ke.lst k6 gsp
      have hy6 := hy5.ke k6
      have kG6 : Kx (fun b => b = S) Hl H6 := kG.trans (Ke.to (S := fun b => b = S) k36)
      have nsS : sp ≠ S := fun e => by
        have := Ke.lst (k3.trans k4) gS
        rw [← e, nsp] at this
        cases this
      have ems : ms = bF lots (n : Int) := brims_sorted hLk hk0 hok hI great_nd hp ho
      subst ems
      clear hxs W3 hc3 t3 gsp hy5 k34 k3 k4 k36 k6 gpe hLe gpg hLg
      refine ⟨_, rfl, .inl ⟨rfl, _, sqL_of gS6⟩, _, rfl, _, rfl, _, rfl, _, rfl, by show 4 ≤ sizeLine; decide, fun q nq => ?_⟩
      have kq := Ke.new (S := fun _ => False) (o := .tup [.ref tw, .int k, .ref c, .ref x]) nq
      have gq : (upd H6 q (.tup [.ref tw, .int k, .ref c, .ref x])) q = some (.tup [.ref tw, .int k, .ref c, .ref x]) := upd_same
      have gSq := Ke.lst kq gS6
      have Wq := W6.ke kq
      have hcq := Ke.tup kq hc6
      have hxq' := Ke.tup kq hx
      have hLxq := hLx.ke kq
      have hxq : ∀ y ∈ xs, AskB (upd H6 q (.tup [.ref tw, .int k, .ref c, .ref x])) y := fun y hy => (hx6 y hy).mono fun q ys e => Ke.tup kq e
      have tq := t6.kx kq
      have gspq := Ke.lst kq gsp6
      have hyq := hy6.ke kq
      have kGq := kG6.trans (Ke.to (S := fun b => b = S) kq)
      clear kq hx6 t6 W6 hc6 gsp6 hy6 kG6 hLx hx
      generalize upd H6 q _ = Hq at *
      have hAsk : AskB Hq (.ref q) := ⟨q, _, _, ts, k, c, ws, x, rs, lots, rows, rfl, gq, Wq, hok, n1, by omega, by omega, hk0, by omega, hcq, hL, hxq', hLxq, hI⟩
      refine ⟨S, _, _, rfl, rfl, gSq, by omega, ?_⟩
      have tS' : ∀ q' ys, Hq q' = some (.tup ys) → (upd Hq S (.lst (xs ++ [.ref q]))) q' = some (.tup ys) := fun q' ys e => by rw [upd_ne (ne_of e gSq fun z => nomatch z)]; exact e
      have gSn : (upd Hq S (.lst (xs ++ [.ref q]))) S = some (.lst (xs ++ [.ref q])) := upd_same
      have gspn : (upd Hq S (.lst (xs ++ [.ref q]))) sp = some (.lst ys) := by rw [upd_ne nsS]; exact gspq
      have hxn' := tS' _ _ hxq'
      have hLxn := hLxq.mono tS'
      have hyn := hyq.mono tS'
      have hxn : ∀ x ∈ xs ++ [.ref q], AskB (upd Hq S (.lst (xs ++ [.ref q]))) x := fun x hx => by
        rcases List.mem_append.mp hx with hx | hx
        · exact (hxq x hx).mono tS'
        · rw [List.mem_singleton.mp hx]
          exact hAsk.mono tS'
      have kput : Kx (fun b => b = S) Hq (upd Hq S (.lst (xs ++ [.ref q]))) := Ke.put gSq fun _ z => nomatch z
      have kGn := kGq.trans kput
      clear kput tS' hxq' hLxq hyq hxq gSq gspq Wq hcq tq gq hAsk
      generalize upd Hq S _ = Hn at *
      refine ⟨_, rfl, _, _, _, _, true, rfl, .ty _, (TyN.tup hxn').x, isi_yes, true, rfl, (if_neg Bool.false_ne_true).mpr ?_⟩
      refine ⟨_, rfl, _, rfl, sp, _, rfl, .inl ⟨sqL_of gspn, fun w nw => ?_⟩⟩
      have kw := Ke.new (S := fun _ => False) (o := .tup ys) nw
      refine ⟨.tuple ((bF lots (n : Int)).map fun l => .tuple (l.map PyData.int)), .tuple ((bF lots (n : Int)).map fun l => .tuple (l.map PyData.int)), .tup (sqT_of (Ke.tup kw hxn')) (hLxn.ke kw).dp, .tup (sqT_of upd_same) (hyn.ke kw).dp, shaped_lots _, shaped_lots _, ?_⟩
      rw [eqv_lots]
      refine ⟨_, rfl, iteF ?_⟩
      have gSw := Ke.lst kw gSn
      have hxw := Ke.tup kw hxn'
      have hLw := hLxn.ke kw
      have hxsw : ∀ x ∈ xs ++ [.ref q], AskB (upd Hn w (.tup ys)) x := fun x hx => (hxn x hx).mono fun q ys e => Ke.tup kw e
      have kGw := kGn.trans (Ke.to (S := fun b => b = S) kw)
      clear kw hxn hLxn hxn' gSn kGn hyn
      generalize upd Hn w _ = Hw at *
      have hBl := hLw.length
      have hBn : (bF lots (n : Int)).length ≤ n := by
        have := List.length_filter_le (fun l : List Int => decide (1 < l.length)) (piecesF (foldR (fun x => x) (joinsF lots)) (n : Int))
        have h2 := pieces_len (g := foldR (fun x => x) (joinsF lots)) (n := (n : Int))
        show (List.filter _ _).length ≤ n
        omega
      have hB16 : ∀ l ∈ bF lots (n : Int), l.length ≤ n := fun l hl => hml l (mem_great.mp ((brims_mem hLk hk0 hok hI).mp hl)).1
      refine ⟨_, rfl, x, rfl, ⟨_, sqT_of hxw⟩, fun D nD => ?_⟩
      refine lc_tup (K := K) (a := x) (xs := rs) (fun j J => Ke Hw J ∧ J D = some (.lst ((((bF lots (n : Int)).take j).map fun l => (l.length : Int)).map V.int))) ⟨Ke.new nD, upd_same⟩ (fun j J _ hJ => sqT_of (hJ.1.tup hxw)) (fun j z J hz hJ => ?_) (fun J hJ => ?_)
      · obtain ⟨kJ, gD⟩ := hJ
        obtain ⟨ls, q1, els, rfl, hq1⟩ := hLw.get hz
        refine ⟨rfl, yes_ite ?_⟩
        refine ⟨_, rfl, q1, _, rfl, .inr (sqT_of (kJ.tup hq1)), ?_⟩
        refine ⟨_, gD, by rw [List.length_map, List.length_map, List.length_take]; omega, kJ.over nD, ?_⟩
        rw [take_next els, List.map_append, List.map_append, List.length_map]
        exact upd_same
      obtain ⟨kJ, gD⟩ := hJ
      rw [hBl, List.take_length] at gD
      refine ⟨D, _, rfl, sqL_of gD, ?_⟩
      have hxJ := Ke.tup kJ hxw
      have hLJ := hLw.ke kJ
      refine ⟨_, rfl, x, rfl, ⟨_, sqT_of hxJ⟩, fun D2 nD2 => ?_⟩
      refine lc_tup (K := K) (a := x) (xs := rs) (fun j J2 => Ke J J2 ∧ ∃ zs, J2 D2 = some (.lst zs) ∧ LsQ D2 J2 zs ((bF lots (n : Int)).take j)) ⟨Ke.new nD2, [], upd_same, .nil⟩ (fun j J2 _ hJ => sqT_of (hJ.1.tup hxJ)) (fun j z J2 hz hJ => ?_) (fun J2 hJ => ?_)
      · obtain ⟨kJ2, zs, gD2, hZ⟩ := hJ
        obtain ⟨ls, q1, els, rfl, hq1⟩ := hLJ.get hz
        have hZl := hZ.length
        rw [List.length_take] at hZl
        refine ⟨rfl, yes_ite ?_⟩
        refine ⟨_, rfl, q1, _, rfl, .inr (sqT_of (kJ2.tup hq1)), fun l2 nl2 => ?_⟩
        have gD3 := lst_new (o := .lst (ls.map V.int)) nl2 gD2
        have l2D : l2 ≠ D2 := fun e => by rw [e, gD2] at nl2; cases nl2
        refine ⟨zs, gD3, by omega, (kJ2.trans (Ke.new nl2)).over nD2, zs ++ [.ref l2], upd_same, ?_⟩
        rw [take_next els]
        refine (hZ.mono fun q xs hq e => ?_).append (.cons ⟨l2, rfl, l2D, by rw [upd_ne l2D]; exact upd_same⟩ .nil)
        rw [upd_ne hq, upd_ne (ne_of_none e nl2)]
        exact e
      obtain ⟨kJ2, zs, gD2, hZ⟩ := hJ
      rw [hBl, List.take_length] at hZ
      refine ⟨by show 0 ≤ sizeLine; decide, fun e0 ne0 => ?_⟩
      have ke0 := Ke.new (S := fun _ => False) (o := .lst []) ne0
      have ge0 : (upd J2 e0 (.lst [])) e0 = some (.lst []) := upd_same
      have gD3 := lst_new (o := .lst []) ne0 gD2
      have hZ3 : LsQ D2 (upd J2 e0 (.lst [])) zs (bF lots (n : Int)) := hZ.mono fun q xs _ e => lst_new ne0 e
      have kE := kJ.trans (kJ2.trans ke0)
      generalize upd J2 e0 _ = J3 at *
      have hff := flat_ints' (bF lots (n : Int))
      have hfn := bF_flat hLk hk0 hok hI
      have hfl2 : (bF lots (n : Int)).flatten.length ≤ n := by
        have := nd_le hfn (m := upTo n) fun x hx => by
          obtain ⟨l, hl, hx⟩ := List.mem_flatten.mp hx
          exact upTo_mem.mpr (((hmt l).mp (mem_great.mp ((brims_mem hLk hk0 hok hI).mp hl)).1).1.lot.ok x hx)
        rw [upTo_length] at this
        omega
      refine ⟨D2, e0, zs, _, rfl, sqL_of gD3, hZ3.lis, ge0, by rw [hff, List.length_map]; omega, fun f J4 k4 hf => ?_⟩
      rw [hff] at hf
      refine ⟨f, _, rfl, sqL_of hf, by omega, ?_⟩
      rw [sum_lens, nub_of_nd hfn]
      refine ⟨rfl, _, rfl, ?_⟩
      rw [decide_eq_true rfl]
      refine iteF ?_
      have kZ := kE.trans k4
      exact ⟨_, _, _, _, xs ++ [.ref q], rfl, kGw.trans (Ke.to (S := fun b => b = S) kZ), Ke.lst kZ gSw, fun x hx => (hxsw x hx).mono fun q ys e => Ke.tup kZ e, by rw [List.length_append]; show xs.length + 1 ≤ _; omega⟩
    · obtain ⟨y7, y8, y9, y10, xs, rfl, kG, gS, hxs, hxl⟩ := hG
      have dG' : Deck G p := by
        obtain ⟨ds, e, g⟩ := dl
        exact ⟨ds, kG.at_ _ _ e (fun _ y => nomatch y) Sp_.symm, g⟩
      exact ⟨_, _, _, _, _, _, _, _, xs, rfl, dG', tl.kx kG, gS, hxs, by show xs.length ≤ 2 * (i + 1); exact hxl⟩
  · obtain ⟨y3, y4, y5, y6, y7, y8, y9, y10, xs, rfl, dG, tG, gS, hxs, hxl⟩ := hG
    refine ⟨_, rfl, S, rfl, ⟨_, sqL_of gS⟩, fun D nD => ?_⟩
    refine lc_it (walk_list (K := K) (a := S) (xs := xs)) (fun j J => Ke G J ∧ J D = some (.lst [])) ⟨Ke.new nD, upd_same⟩ (fun j J _ hJ => sqL_of (hJ.1.lst gS)) (fun j y J J' hj hJ hy => ?_) (fun J hJ => ?_)
    · obtain ⟨kL, gD⟩ := hJ
      obtain ⟨rfl, hy⟩ := hy
      obtain ⟨q', v, n, ts, k, u, ws, x, rs, lots, rows, rfl, h1, W, a1, a2, a3, a4, a5, a6, h2, a7, hx, hLx, hI⟩ := (hxs y (List.mem_of_getElem? hy)).mono (H' := J') fun q xs e => kL.tup e
      refine ⟨q', _, rfl, sqT_of h1, rfl, _, _, rfl, _, _, rfl, _, _, rfl, _, [], rfl, rfl, rfl, ?_⟩
      refine ⟨_, rfl, _, rfl, _, rfl, v, n, ts, k, u, ws, rfl, W, a1, a2, a3, a4, a5, a6, h2, a7, tG.kx kL, fun G8 x' rs' lots' rows' k8 hI' hx' hLx' => ?_⟩
      obtain ⟨rfl, rfl⟩ := hI.same a7.len hI'
      have hLx' : Lots G8 rs' (bF lots n) := hLx'
      refine ⟨_, rfl, .tuple ((bF lots n).map fun l => .tuple (l.map PyData.int)), .tuple ((bF lots n).map fun l => .tuple (l.map PyData.int)), .tup (sqT_of hx') hLx'.dp, .tup (sqT_of (Ke.tup k8 hx)) (hLx.ke k8).dp, shaped_lots _, shaped_lots _, ?_⟩
      rw [eqv_lots]
      refine ⟨_, rfl, iteF ?_⟩
      exact ⟨kL.trans k8, k8.lst gD⟩
    obtain ⟨kL, gD⟩ := hJ
    refine ⟨by show 0 ≤ sizeLine; decide, fun z nz => ?_⟩
    refine ⟨.list [], .list [], .lst (sqL_of (lst_new nz gD)) .nil, .lst (sqL_of upd_same) .nil, rfl, rfl, ?_⟩
    rw [SeqAt.eqv_refl _ (SeqAt.canLay_of_shaped (d := .list []) rfl)]
    exact q _
end FF
namespace FF
open PySem PySem.Spec PyProof.Rows L2
/-! ### the head -/
def d_leader_of : He.DefD := ⟨("leader_of", none), "leader_of", "leader_of", defArgs s_leader_of, defBody s_leader_of, defScope s_leader_of, [], []⟩
def d_join_points : He.DefD := ⟨("join_points", none), "join_points", "join_points", defArgs s_join_points, defBody s_join_points, defScope s_join_points, [], []⟩
def d_pieces_of : He.DefD := ⟨("pieces_of", none), "pieces_of", "pieces_of", defArgs s_pieces_of, defBody s_pieces_of, defScope s_pieces_of, [], []⟩
def d_with_tie : He.DefD := ⟨("with_tie", none), "with_tie", "with_tie", defArgs s_with_tie, defBody s_with_tie, defScope s_with_tie, [], []⟩
def d_tie_of : He.DefD := ⟨("tie_of", none), "tie_of", "tie_of", defArgs s_tie_of, defBody s_tie_of, defScope s_tie_of, [], []⟩
def d_bounded_web : He.DefD := ⟨("bounded_web", none), "bounded_web", "bounded_web", defArgs s_bounded_web, defBody s_bounded_web, defScope s_bounded_web, [], []⟩
def d_ties_by_forest : He.DefD := ⟨("ties_by_forest", none), "ties_by_forest", "ties_by_forest", defArgs s_ties_by_forest, defBody s_ties_by_forest, defScope s_ties_by_forest, [], []⟩
def d_hung_forest : He.DefD := ⟨("hung_forest", none), "hung_forest", "hung_forest", defArgs s_hung_forest, defBody s_hung_forest, defScope s_hung_forest, [.int 0], []⟩
def d_hang_tree : He.DefD := ⟨("hang_tree", none), "hang_tree", "hang_tree", defArgs s_hang_tree, defBody s_hang_tree, defScope s_hang_tree, [], []⟩
def d_ring_between : He.DefD := ⟨("ring_between", none), "ring_between", "ring_between", defArgs s_ring_between, defBody s_ring_between, defScope s_ring_between, [], []⟩
def d_push_tie : He.DefD := ⟨("push_tie", none), "push_tie", "push_tie", defArgs s_push_tie, defBody s_push_tie, defScope s_push_tie, [], []⟩
def d_first_free : He.DefD := ⟨("first_free", none), "first_free", "first_free", defArgs s_first_free, defBody s_first_free, defScope s_first_free, [], []⟩
def d_newly_reached : He.DefD := ⟨("newly_reached", none), "newly_reached", "newly_reached", defArgs s_newly_reached, defBody s_newly_reached, defScope s_newly_reached, [], []⟩
def d_row_to : He.DefD := ⟨("row_to", none), "row_to", "row_to", defArgs s_row_to, defBody s_row_to, defScope s_row_to, [], []⟩
def d_levels_of : He.DefD := ⟨("levels_of", none), "levels_of", "levels_of", defArgs s_levels_of, defBody s_levels_of, defScope s_levels_of, [], []⟩
def d_ends_of : He.DefD := ⟨("ends_of", none), "ends_of", "ends_of", defArgs s_ends_of, defBody s_ends_of, defScope s_ends_of, [], []⟩
def d_is_beyond_rooms : He.DefD := ⟨("is_beyond_rooms", none), "is_beyond_rooms", "is_beyond_rooms", defArgs s_is_beyond_rooms, defBody s_is_beyond_rooms, defScope s_is_beyond_rooms, [], []⟩
def d_pairs_of : He.DefD := ⟨("pairs_of", none), "pairs_of", "pairs_of", defArgs s_pairs_of, defBody s_pairs_of, defScope s_pairs_of, [], []⟩
def d_is_held : He.DefD := ⟨("is_held", none), "is_held", "is_held", defArgs s_is_held, defBody s_is_held, defScope s_is_held, [], []⟩
def d_rooms_of : He.DefD := ⟨("rooms_of", none), "rooms_of", "rooms_of", defArgs s_rooms_of, defBody s_rooms_of, defScope s_rooms_of, [], []⟩
def d_brims_of : He.DefD := ⟨("brims_of", none), "brims_of", "brims_of", defArgs s_brims_of, defBody s_brims_of, defScope s_brims_of, [], []⟩
def d_law_mixed : He.DefD := ⟨("_law_mixed", none), "_law_mixed", "_law_mixed", defArgs s_law_mixed, defBody s_law_mixed, defScope s_law_mixed, [], []⟩
def d_law_deck : He.DefD := ⟨("_law_deck", none), "_law_deck", "_law_deck", defArgs s_law_deck, defBody s_law_deck, defScope s_law_deck, [], []⟩
def d_law_next : He.DefD := ⟨("_law_next", none), "_law_next", "_law_next", defArgs s_law_next, defBody s_law_next, defScope s_law_next, [], []⟩
def d_law_tie : He.DefD := ⟨("_law_tie", none), "_law_tie", "_law_tie", defArgs s_law_tie, defBody s_law_tie, defScope s_law_tie, [], []⟩
def d_law_any_web : He.DefD := ⟨("_law_any_web", none), "_law_any_web", "_law_any_web", defArgs s_law_any_web, defBody s_law_any_web, defScope s_law_any_web, [], []⟩
def d_law_round : He.DefD := ⟨("_law_round", none), "_law_round", "_law_round", defArgs s_law_round, defBody s_law_round, defScope s_law_round, [], []⟩
def d_law_full : He.DefD := ⟨("_law_full", none), "_law_full", "_law_full", defArgs s_law_full, defBody s_law_full, defScope s_law_full, [], []⟩
def d_law_tree : He.DefD := ⟨("_law_tree", none), "_law_tree", "_law_tree", defArgs s_law_tree, defBody s_law_tree, defScope s_law_tree, [], []⟩
def d_law_web : He.DefD := ⟨("_law_web", none), "_law_web", "_law_web", defArgs s_law_web, defBody s_law_web, defScope s_law_web, [], []⟩
def d_law_heads : He.DefD := ⟨("_law_heads", none), "_law_heads", "_law_heads", defArgs s_law_heads, defBody s_law_heads, defScope s_law_heads, [], []⟩
def d_law_is_forest : He.DefD := ⟨("_law_is_forest", none), "_law_is_forest", "_law_is_forest", defArgs s_law_is_forest, defBody s_law_is_forest, defScope s_law_is_forest, [], []⟩
def d_law_within : He.DefD := ⟨("_law_within", none), "_law_within", "_law_within", defArgs s_law_within, defBody s_law_within, defScope s_law_within, [], []⟩
def d_law_lots : He.DefD := ⟨("_law_lots", none), "_law_lots", "_law_lots", defArgs s_law_lots, defBody s_law_lots, defScope s_law_lots, [], []⟩
def d_law_laying : He.DefD := ⟨("_law_laying", none), "_law_laying", "_law_laying", defArgs s_law_laying, defBody s_law_laying, defScope s_law_laying, [], []⟩
def d_law_in_layer : He.DefD := ⟨("_law_in_layer", none), "_law_in_layer", "_law_in_layer", defArgs s_law_in_layer, defBody s_law_in_layer, defScope s_law_in_layer, [], []⟩
def d_law_is_tight : He.DefD := ⟨("_law_is_tight", none), "_law_is_tight", "_law_is_tight", defArgs s_law_is_tight, defBody s_law_is_tight, defScope s_law_is_tight, [], []⟩
def d_law_tight_lots : He.DefD := ⟨("_law_tight_lots", none), "_law_tight_lots", "_law_tight_lots", defArgs s_law_tight_lots, defBody s_law_tight_lots, defScope s_law_tight_lots, [], []⟩
def d_law_is_part : He.DefD := ⟨("_law_is_part", none), "_law_is_part", "_law_is_part", defArgs s_law_is_part, defBody s_law_is_part, defScope s_law_is_part, [], []⟩
def d_law_greatest : He.DefD := ⟨("_law_greatest", none), "_law_greatest", "_law_greatest", defArgs s_law_greatest, defBody s_law_greatest, defScope s_law_greatest, [], []⟩
def d_law : He.DefD := ⟨("law", none), "law", "law", defArgs s_law, defBody s_law, defScope s_law, [], []⟩
def fn : List He.DefD := [d_leader_of, d_join_points, d_pieces_of, d_with_tie, d_tie_of, d_bounded_web, d_ties_by_forest, d_hung_forest, d_hang_tree, d_ring_between, d_push_tie, d_first_free, d_newly_reached, d_row_to, d_levels_of, d_ends_of, d_is_beyond_rooms, d_pairs_of, d_is_held, d_rooms_of, d_brims_of, d_law_mixed, d_law_deck, d_law_next, d_law_tie, d_law_any_web, d_law_round, d_law_full, d_law_tree, d_law_web, d_law_heads, d_law_is_forest, d_law_within, d_law_lots, d_law_laying, d_law_in_layer, d_law_is_tight, d_law_tight_lots, d_law_is_part, d_law_greatest, d_law]
def fa : List He.Fa := [.glo "leader_of", .glo "join_points", .glo "pieces_of", .glo "with_tie", .glo "tie_of", .glo "bounded_web", .glo "ties_by_forest", .glo "hung_forest", .glo "hang_tree", .glo "ring_between", .glo "push_tie", .glo "first_free", .glo "newly_reached", .glo "row_to", .glo "levels_of", .glo "ends_of", .glo "is_beyond_rooms", .glo "pairs_of", .glo "is_held", .glo "rooms_of", .glo "brims_of", .glo "_law_mixed", .glo "_law_deck", .glo "_law_next", .glo "_law_tie", .glo "_law_any_web", .glo "_law_round", .glo "_law_full", .glo "_law_tree", .glo "_law_web", .glo "_law_heads", .glo "_law_is_forest", .glo "_law_within", .glo "_law_lots", .glo "_law_laying", .glo "_law_in_layer", .glo "_law_is_tight", .glo "_law_tight_lots", .glo "_law_is_part", .glo "_law_greatest", .glo "law", .free "ValueError", .free "any", .free "enumerate", .free "int", .free "isinstance", .free "len", .free "list", .free "max", .free "min", .free "range", .free "reversed", .free "set", .free "sorted", .free "sum", .free "tuple", .free "zip", .int "MOST_POINTS" 40, .int "MOST_TIES" 120, .int "MOST_POINTS_FOR_ROOMS" 16]
def tf : List He.Defn := [("pieces_of", none), ("levels_of", none), ("ends_of", none), ("is_held", none), ("brims_of", none)]
abbrev R : PySem.W.OpenRow := PySem.W.OpenLaw.row PySem.Challenge.rw_fewforests_k71_brims_by_all_lots
abbrev hk : PySem.W.Hook := He.hookX 4 fa fn [] tf (fun _ => true)
def ob (s : PySem.W.SharedT) : He.AlX := He.obsX 4 fa fn [] tf (fun _ => true) (HandSHeadRun.getT s)
theorem ob_eq (s : PySem.W.SharedT) : ob s = hk.obs s.abs := He.obsX_eq (HandSHeadRun.getT_eq s)
def loose : List PySem.Str := "leader_of" :: "join_points" :: "pieces_of" :: "with_tie" :: "tie_of" :: "bounded_web" :: "ties_by_forest" :: "hung_forest" :: "hang_tree" :: "ring_between" :: "push_tie" :: "first_free" :: "newly_reached" :: "row_to" :: "levels_of" :: "ends_of" :: "is_beyond_rooms" :: "pairs_of" :: "is_held" :: "rooms_of" :: "brims_of" :: "_law_mixed" :: "_law_deck" :: "_law_next" :: "_law_tie" :: "_law_any_web" :: "_law_round" :: "_law_full" :: "_law_tree" :: "_law_web" :: "_law_heads" :: "_law_is_forest" :: "_law_within" :: "_law_lots" :: "_law_laying" :: "_law_in_layer" :: "_law_is_tight" :: "_law_tight_lots" :: "_law_is_part" :: "_law_greatest" :: "MOST_POINTS" :: "MOST_TIES" :: "MOST_POINTS_FOR_ROOMS" :: "WebsError" :: "TooGreat" :: []
theorem run (w : World) : HandSHeadRun.RunEq R (PySem.W.view R.prog [54]) hk ob 3000 loose w := by
  intro os
  kernel_rfl
theorem lawAt {w : World} {K : PySem.W.Frag} {h : Heap} {mg : Str → Option Value} {f : Addr} (X : K.In h) (G : h.Ns mainGlobals mg) (hfa : mg ("law" : Str) = some (.ref f)) (c : He.SaysX fa fn [] tf (fun _ => true) w h K) :
    LamX.LawAtS PySem.Challenge.rw_fewforests_k71_brims_by_all_lots w K CX0 11 63 "_law_script" mg f h := by
  have cd : He.SaysD fa fn K := c.t.d
  letI LI : LT := ⟨fun _ => false⟩
  obtain ⟨fd_leader_of, F_leader_of⟩ := cd.def_ 0 (d := d_leader_of) rfl
  have g_leader_of := He.glo_ok X G (cd.fact 0 (f := .glo "leader_of") rfl)
  have D_leader_of : DefAt K mg "leader_of" s_leader_of ["leaders", "point"] _ fd_leader_of := ⟨F_leader_of, g_leader_of, FunD.bindsN F_leader_of fun _ _ _ _ _ _ us hl => match us, hl with | [_, _], _ => rfl⟩
  obtain ⟨fd_join_points, F_join_points⟩ := cd.def_ 1 (d := d_join_points) rfl
  have g_join_points := He.glo_ok X G (cd.fact 1 (f := .glo "join_points") rfl)
  have D_join_points : DefAt K mg "join_points" s_join_points ["leaders", "a", "b"] _ fd_join_points := ⟨F_join_points, g_join_points, FunD.bindsN F_join_points fun _ _ _ _ _ _ us hl => match us, hl with | [_, _, _], _ => rfl⟩
  obtain ⟨fd_pieces_of, F_pieces_of⟩ := cd.def_ 2 (d := d_pieces_of) rfl
  have g_pieces_of := He.glo_ok X G (cd.fact 2 (f := .glo "pieces_of") rfl)
  have D_pieces_of : DefAt K mg "pieces_of" s_pieces_of ["web"] _ fd_pieces_of := ⟨F_pieces_of, g_pieces_of, FunD.bindsN F_pieces_of fun _ _ _ _ _ _ us hl => match us, hl with | [_], _ => rfl⟩
  obtain ⟨fd_with_tie, F_with_tie⟩ := cd.def_ 3 (d := d_with_tie) rfl
  have g_with_tie := He.glo_ok X G (cd.fact 3 (f := .glo "with_tie") rfl)
  have D_with_tie : DefAt K mg "with_tie" s_with_tie ["web", "a", "b"] _ fd_with_tie := ⟨F_with_tie, g_with_tie, FunD.bindsN F_with_tie fun _ _ _ _ _ _ us hl => match us, hl with | [_, _, _], _ => rfl⟩
  obtain ⟨fd_tie_of, F_tie_of⟩ := cd.def_ 4 (d := d_tie_of) rfl
  have g_tie_of := He.glo_ok X G (cd.fact 4 (f := .glo "tie_of") rfl)
  have D_tie_of : DefAt K mg "tie_of" s_tie_of ["a", "b"] _ fd_tie_of := ⟨F_tie_of, g_tie_of, FunD.bindsN F_tie_of fun _ _ _ _ _ _ us hl => match us, hl with | [_, _], _ => rfl⟩
  obtain ⟨fd_bounded_web, F_bounded_web⟩ := cd.def_ 5 (d := d_bounded_web) rfl
  have g_bounded_web := He.glo_ok X G (cd.fact 5 (f := .glo "bounded_web") rfl)
  have D_bounded_web : DefAt K mg "bounded_web" s_bounded_web ["points", "ties"] _ fd_bounded_web := ⟨F_bounded_web, g_bounded_web, FunD.bindsN F_bounded_web fun _ _ _ _ _ _ us hl => match us, hl with | [_, _], _ => rfl⟩
  obtain ⟨fd_ties_by_forest, F_ties_by_forest⟩ := cd.def_ 6 (d := d_ties_by_forest) rfl
  have g_ties_by_forest := He.glo_ok X G (cd.fact 6 (f := .glo "ties_by_forest") rfl)
  have D_ties_by_forest : DefAt K mg "ties_by_forest" s_ties_by_forest ["laying"] _ fd_ties_by_forest := ⟨F_ties_by_forest, g_ties_by_forest, FunD.bindsN F_ties_by_forest fun _ _ _ _ _ _ us hl => match us, hl with | [_], _ => rfl⟩
  obtain ⟨fd_hung_forest, F_hung_forest⟩ := cd.def_ 7 (d := d_hung_forest) rfl
  have g_hung_forest := He.glo_ok X G (cd.fact 7 (f := .glo "hung_forest") rfl)
  have D_hung_forest : DefAt1 K mg "hung_forest" s_hung_forest ["web", "numbers", "root"] (.int 0) _ fd_hung_forest := ⟨F_hung_forest, g_hung_forest, binds_all (FunD.binds1 F_hung_forest 3 1 (List.cons_ne_nil _ _) rfl fun _ _ _ _ _ _ _ us its hl h2 => match us, hl, its, h2 with | [_, _, _], _, [_], _ => ⟨_, rfl, rfl⟩), FunD.binds1 F_hung_forest 2 0 (List.cons_ne_nil _ _) rfl fun _ _ _ _ _ _ _ us its hl h2 => match us, hl, its, h2 with | [_, _], _, [_], _ => ⟨_, rfl, rfl⟩⟩
  obtain ⟨fd_hang_tree, F_hang_tree⟩ := cd.def_ 8 (d := d_hang_tree) rfl
  have g_hang_tree := He.glo_ok X G (cd.fact 8 (f := .glo "hang_tree") rfl)
  have D_hang_tree : DefAt K mg "hang_tree" s_hang_tree ["steps", "hung", "top"] _ fd_hang_tree := ⟨F_hang_tree, g_hang_tree, FunD.bindsN F_hang_tree fun _ _ _ _ _ _ us hl => match us, hl with | [_, _, _], _ => rfl⟩
  obtain ⟨fd_ring_between, F_ring_between⟩ := cd.def_ 9 (d := d_ring_between) rfl
  have g_ring_between := He.glo_ok X G (cd.fact 9 (f := .glo "ring_between") rfl)
  have D_ring_between : DefAt K mg "ring_between" s_ring_between ["hung", "a", "b"] _ fd_ring_between := ⟨F_ring_between, g_ring_between, FunD.bindsN F_ring_between fun _ _ _ _ _ _ us hl => match us, hl with | [_, _, _], _ => rfl⟩
  obtain ⟨fd_push_tie, F_push_tie⟩ := cd.def_ 10 (d := d_push_tie) rfl
  have g_push_tie := He.glo_ok X G (cd.fact 10 (f := .glo "push_tie") rfl)
  have D_push_tie : DefAt K mg "push_tie" s_push_tie ["web", "k", "laying", "tie"] _ fd_push_tie := ⟨F_push_tie, g_push_tie, FunD.bindsN F_push_tie fun _ _ _ _ _ _ us hl => match us, hl with | [_, _, _, _], _ => rfl⟩
  obtain ⟨fd_first_free, F_first_free⟩ := cd.def_ 11 (d := d_first_free) rfl
  have g_first_free := He.glo_ok X G (cd.fact 11 (f := .glo "first_free") rfl)
  have D_first_free : DefAt K mg "first_free" s_first_free ["web", "k", "laying", "pushers"] _ fd_first_free := ⟨F_first_free, g_first_free, FunD.bindsN F_first_free fun _ _ _ _ _ _ us hl => match us, hl with | [_, _, _, _], _ => rfl⟩
  obtain ⟨fd_newly_reached, F_newly_reached⟩ := cd.def_ 12 (d := d_newly_reached) rfl
  have g_newly_reached := He.glo_ok X G (cd.fact 12 (f := .glo "newly_reached") rfl)
  have D_newly_reached : DefAt K mg "newly_reached" s_newly_reached ["pushers", "ring", "push"] _ fd_newly_reached := ⟨F_newly_reached, g_newly_reached, FunD.bindsN F_newly_reached fun _ _ _ _ _ _ us hl => match us, hl with | [_, _, _], _ => rfl⟩
  obtain ⟨fd_row_to, F_row_to⟩ := cd.def_ 13 (d := d_row_to) rfl
  have g_row_to := He.glo_ok X G (cd.fact 13 (f := .glo "row_to") rfl)
  have D_row_to : DefAt K mg "row_to" s_row_to ["pushers", "last"] _ fd_row_to := ⟨F_row_to, g_row_to, FunD.bindsN F_row_to fun _ _ _ _ _ _ us hl => match us, hl with | [_, _], _ => rfl⟩
  obtain ⟨fd_levels_of, F_levels_of⟩ := cd.def_ 14 (d := d_levels_of) rfl
  have g_levels_of := He.glo_ok X G (cd.fact 14 (f := .glo "levels_of") rfl)
  have D_levels_of : DefAt K mg "levels_of" s_levels_of ["web", "pushers", "n"] _ fd_levels_of := ⟨F_levels_of, g_levels_of, FunD.bindsN F_levels_of fun _ _ _ _ _ _ us hl => match us, hl with | [_, _, _], _ => rfl⟩
  obtain ⟨fd_ends_of, F_ends_of⟩ := cd.def_ 15 (d := d_ends_of) rfl
  have g_ends_of := He.glo_ok X G (cd.fact 15 (f := .glo "ends_of") rfl)
  have D_ends_of : DefAt K mg "ends_of" s_ends_of ["web", "numbers"] _ fd_ends_of := ⟨F_ends_of, g_ends_of, FunD.bindsN F_ends_of fun _ _ _ _ _ _ us hl => match us, hl with | [_, _], _ => rfl⟩
  obtain ⟨fd_is_beyond_rooms, F_is_beyond_rooms⟩ := cd.def_ 16 (d := d_is_beyond_rooms) rfl
  have g_is_beyond_rooms := He.glo_ok X G (cd.fact 16 (f := .glo "is_beyond_rooms") rfl)
  have D_is_beyond_rooms : DefAt K mg "is_beyond_rooms" s_is_beyond_rooms ["web"] _ fd_is_beyond_rooms := ⟨F_is_beyond_rooms, g_is_beyond_rooms, FunD.bindsN F_is_beyond_rooms fun _ _ _ _ _ _ us hl => match us, hl with | [_], _ => rfl⟩
  obtain ⟨fd_pairs_of, F_pairs_of⟩ := cd.def_ 17 (d := d_pairs_of) rfl
  have g_pairs_of := He.glo_ok X G (cd.fact 17 (f := .glo "pairs_of") rfl)
  have D_pairs_of : DefAt K mg "pairs_of" s_pairs_of ["web"] _ fd_pairs_of := ⟨F_pairs_of, g_pairs_of, FunD.bindsN F_pairs_of fun _ _ _ _ _ _ us hl => match us, hl with | [_], _ => rfl⟩
  obtain ⟨fd_is_held, F_is_held⟩ := cd.def_ 18 (d := d_is_held) rfl
  have g_is_held := He.glo_ok X G (cd.fact 18 (f := .glo "is_held") rfl)
  have D_is_held : DefAt K mg "is_held" s_is_held ["lots", "pair"] _ fd_is_held := ⟨F_is_held, g_is_held, FunD.bindsN F_is_held fun _ _ _ _ _ _ us hl => match us, hl with | [_, _], _ => rfl⟩
  obtain ⟨fd_rooms_of, F_rooms_of⟩ := cd.def_ 19 (d := d_rooms_of) rfl
  have g_rooms_of := He.glo_ok X G (cd.fact 19 (f := .glo "rooms_of") rfl)
  have D_rooms_of : DefAt K mg "rooms_of" s_rooms_of ["web", "k", "laying"] _ fd_rooms_of := ⟨F_rooms_of, g_rooms_of, FunD.bindsN F_rooms_of fun _ _ _ _ _ _ us hl => match us, hl with | [_, _, _], _ => rfl⟩
  obtain ⟨fd_brims_of, F_brims_of⟩ := cd.def_ 20 (d := d_brims_of) rfl
  have g_brims_of := He.glo_ok X G (cd.fact 20 (f := .glo "brims_of") rfl)
  have D_brims_of : DefAt K mg "brims_of" s_brims_of ["web", "k", "laying"] _ fd_brims_of := ⟨F_brims_of, g_brims_of, FunD.bindsN F_brims_of fun _ _ _ _ _ _ us hl => match us, hl with | [_, _, _], _ => rfl⟩
  obtain ⟨fd__law_mixed, F__law_mixed⟩ := cd.def_ 21 (d := d_law_mixed) rfl
  have g__law_mixed := He.glo_ok X G (cd.fact 21 (f := .glo "_law_mixed") rfl)
  have D__law_mixed : DefAt K mg "_law_mixed" s_law_mixed ["_law_cell", "_law_k"] _ fd__law_mixed := ⟨F__law_mixed, g__law_mixed, FunD.bindsN F__law_mixed fun _ _ _ _ _ _ us hl => match us, hl with | [_, _], _ => rfl⟩
  obtain ⟨fd__law_deck, F__law_deck⟩ := cd.def_ 22 (d := d_law_deck) rfl
  have g__law_deck := He.glo_ok X G (cd.fact 22 (f := .glo "_law_deck") rfl)
  have D__law_deck : DefAt K mg "_law_deck" s_law_deck ["_law_script", "_law_many"] _ fd__law_deck := ⟨F__law_deck, g__law_deck, FunD.bindsN F__law_deck fun _ _ _ _ _ _ us hl => match us, hl with | [_, _], _ => rfl⟩
  obtain ⟨fd__law_next, F__law_next⟩ := cd.def_ 23 (d := d_law_next) rfl
  have g__law_next := He.glo_ok X G (cd.fact 23 (f := .glo "_law_next") rfl)
  have D__law_next : DefAt K mg "_law_next" s_law_next ["_law_deck_here"] _ fd__law_next := ⟨F__law_next, g__law_next, FunD.bindsN F__law_next fun _ _ _ _ _ _ us hl => match us, hl with | [_], _ => rfl⟩
  obtain ⟨fd__law_tie, F__law_tie⟩ := cd.def_ 24 (d := d_law_tie) rfl
  have g__law_tie := He.glo_ok X G (cd.fact 24 (f := .glo "_law_tie") rfl)
  have D__law_tie : DefAt K mg "_law_tie" s_law_tie ["_law_deck_here", "_law_points"] _ fd__law_tie := ⟨F__law_tie, g__law_tie, FunD.bindsN F__law_tie fun _ _ _ _ _ _ us hl => match us, hl with | [_, _], _ => rfl⟩
  obtain ⟨fd__law_any_web, F__law_any_web⟩ := cd.def_ 25 (d := d_law_any_web) rfl
  have g__law_any_web := He.glo_ok X G (cd.fact 25 (f := .glo "_law_any_web") rfl)
  have D__law_any_web : DefAt K mg "_law_any_web" s_law_any_web ["_law_deck_here", "_law_points", "_law_most"] _ fd__law_any_web := ⟨F__law_any_web, g__law_any_web, FunD.bindsN F__law_any_web fun _ _ _ _ _ _ us hl => match us, hl with | [_, _, _], _ => rfl⟩
  obtain ⟨fd__law_round, F__law_round⟩ := cd.def_ 26 (d := d_law_round) rfl
  have g__law_round := He.glo_ok X G (cd.fact 26 (f := .glo "_law_round") rfl)
  have D__law_round : DefAt K mg "_law_round" s_law_round ["_law_points"] _ fd__law_round := ⟨F__law_round, g__law_round, FunD.bindsN F__law_round fun _ _ _ _ _ _ us hl => match us, hl with | [_], _ => rfl⟩
  obtain ⟨fd__law_full, F__law_full⟩ := cd.def_ 27 (d := d_law_full) rfl
  have g__law_full := He.glo_ok X G (cd.fact 27 (f := .glo "_law_full") rfl)
  have D__law_full : DefAt K mg "_law_full" s_law_full ["_law_points"] _ fd__law_full := ⟨F__law_full, g__law_full, FunD.bindsN F__law_full fun _ _ _ _ _ _ us hl => match us, hl with | [_], _ => rfl⟩
  obtain ⟨fd__law_tree, F__law_tree⟩ := cd.def_ 28 (d := d_law_tree) rfl
  have g__law_tree := He.glo_ok X G (cd.fact 28 (f := .glo "_law_tree") rfl)
  have D__law_tree : DefAt K mg "_law_tree" s_law_tree ["_law_deck_here", "_law_points"] _ fd__law_tree := ⟨F__law_tree, g__law_tree, FunD.bindsN F__law_tree fun _ _ _ _ _ _ us hl => match us, hl with | [_, _], _ => rfl⟩
  obtain ⟨fd__law_web, F__law_web⟩ := cd.def_ 29 (d := d_law_web) rfl
  have g__law_web := He.glo_ok X G (cd.fact 29 (f := .glo "_law_web") rfl)
  have D__law_web : DefAt K mg "_law_web" s_law_web ["_law_deck_here", "_law_points", "_law_most"] _ fd__law_web := ⟨F__law_web, g__law_web, FunD.bindsN F__law_web fun _ _ _ _ _ _ us hl => match us, hl with | [_, _, _], _ => rfl⟩
  obtain ⟨fd__law_heads, F__law_heads⟩ := cd.def_ 30 (d := d_law_heads) rfl
  have g__law_heads := He.glo_ok X G (cd.fact 30 (f := .glo "_law_heads") rfl)
  have D__law_heads : DefAt K mg "_law_heads" s_law_heads ["_law_points", "_law_ties"] _ fd__law_heads := ⟨F__law_heads, g__law_heads, FunD.bindsN F__law_heads fun _ _ _ _ _ _ us hl => match us, hl with | [_, _], _ => rfl⟩
  obtain ⟨fd__law_is_forest, F__law_is_forest⟩ := cd.def_ 31 (d := d_law_is_forest) rfl
  have g__law_is_forest := He.glo_ok X G (cd.fact 31 (f := .glo "_law_is_forest") rfl)
  have D__law_is_forest : DefAt K mg "_law_is_forest" s_law_is_forest ["_law_points", "_law_ties"] _ fd__law_is_forest := ⟨F__law_is_forest, g__law_is_forest, FunD.bindsN F__law_is_forest fun _ _ _ _ _ _ us hl => match us, hl with | [_, _], _ => rfl⟩
  obtain ⟨fd__law_within, F__law_within⟩ := cd.def_ 32 (d := d_law_within) rfl
  have g__law_within := He.glo_ok X G (cd.fact 32 (f := .glo "_law_within") rfl)
  have D__law_within : DefAt K mg "_law_within" s_law_within ["_law_web_here", "_law_lot"] _ fd__law_within := ⟨F__law_within, g__law_within, FunD.bindsN F__law_within fun _ _ _ _ _ _ us hl => match us, hl with | [_, _], _ => rfl⟩
  obtain ⟨fd__law_lots, F__law_lots⟩ := cd.def_ 33 (d := d_law_lots) rfl
  have g__law_lots := He.glo_ok X G (cd.fact 33 (f := .glo "_law_lots") rfl)
  have D__law_lots : DefAt K mg "_law_lots" s_law_lots ["_law_points"] _ fd__law_lots := ⟨F__law_lots, g__law_lots, FunD.bindsN F__law_lots fun _ _ _ _ _ _ us hl => match us, hl with | [_], _ => rfl⟩
  obtain ⟨fd__law_laying, F__law_laying⟩ := cd.def_ 34 (d := d_law_laying) rfl
  have g__law_laying := He.glo_ok X G (cd.fact 34 (f := .glo "_law_laying") rfl)
  have D__law_laying : DefAt K mg "_law_laying" s_law_laying ["_law_deck_here", "_law_web_here"] _ fd__law_laying := ⟨F__law_laying, g__law_laying, FunD.bindsN F__law_laying fun _ _ _ _ _ _ us hl => match us, hl with | [_, _], _ => rfl⟩
  obtain ⟨fd__law_in_layer, F__law_in_layer⟩ := cd.def_ 35 (d := d_law_in_layer) rfl
  have g__law_in_layer := He.glo_ok X G (cd.fact 35 (f := .glo "_law_in_layer") rfl)
  have D__law_in_layer : DefAt K mg "_law_in_layer" s_law_in_layer ["_law_web_here", "_law_layers", "_law_layer"] _ fd__law_in_layer := ⟨F__law_in_layer, g__law_in_layer, FunD.bindsN F__law_in_layer fun _ _ _ _ _ _ us hl => match us, hl with | [_, _, _], _ => rfl⟩
  obtain ⟨fd__law_is_tight, F__law_is_tight⟩ := cd.def_ 36 (d := d_law_is_tight) rfl
  have g__law_is_tight := He.glo_ok X G (cd.fact 36 (f := .glo "_law_is_tight") rfl)
  have D__law_is_tight : DefAt K mg "_law_is_tight" s_law_is_tight ["_law_web_here", "_law_k", "_law_laying_here", "_law_lot"] _ fd__law_is_tight := ⟨F__law_is_tight, g__law_is_tight, FunD.bindsN F__law_is_tight fun _ _ _ _ _ _ us hl => match us, hl with | [_, _, _, _], _ => rfl⟩
  obtain ⟨fd__law_tight_lots, F__law_tight_lots⟩ := cd.def_ 37 (d := d_law_tight_lots) rfl
  have g__law_tight_lots := He.glo_ok X G (cd.fact 37 (f := .glo "_law_tight_lots") rfl)
  have D__law_tight_lots : DefAt K mg "_law_tight_lots" s_law_tight_lots ["_law_web_here", "_law_k", "_law_laying_here"] _ fd__law_tight_lots := ⟨F__law_tight_lots, g__law_tight_lots, FunD.bindsN F__law_tight_lots fun _ _ _ _ _ _ us hl => match us, hl with | [_, _, _], _ => rfl⟩
  obtain ⟨fd__law_is_part, F__law_is_part⟩ := cd.def_ 38 (d := d_law_is_part) rfl
  have g__law_is_part := He.glo_ok X G (cd.fact 38 (f := .glo "_law_is_part") rfl)
  have D__law_is_part : DefAt K mg "_law_is_part" s_law_is_part ["_law_lot", "_law_other"] _ fd__law_is_part := ⟨F__law_is_part, g__law_is_part, FunD.bindsN F__law_is_part fun _ _ _ _ _ _ us hl => match us, hl with | [_, _], _ => rfl⟩
  obtain ⟨fd__law_greatest, F__law_greatest⟩ := cd.def_ 39 (d := d_law_greatest) rfl
  have g__law_greatest := He.glo_ok X G (cd.fact 39 (f := .glo "_law_greatest") rfl)
  have D__law_greatest : DefAt K mg "_law_greatest" s_law_greatest ["_law_lots_here"] _ fd__law_greatest := ⟨F__law_greatest, g__law_greatest, FunD.bindsN F__law_greatest fun _ _ _ _ _ _ us hl => match us, hl with | [_], _ => rfl⟩
  obtain ⟨fd_law, F_law⟩ := cd.def_ 40 (d := d_law) rfl
  have g_law := He.glo_ok X G (cd.fact 40 (f := .glo "law") rfl)
  have D_law : DefAt K mg "law" s_law ["_law_script"] _ fd_law := ⟨F_law, g_law, FunD.bindsN F_law fun _ _ _ _ _ _ us hl => match us, hl with | [_], _ => rfl⟩
  have T : Blt mg := ⟨He.free_ok X G (cd.fact 41 (f := .free "ValueError") rfl), He.free_ok X G (cd.fact 42 (f := .free "any") rfl), He.free_ok X G (cd.fact 43 (f := .free "enumerate") rfl), He.free_ok X G (cd.fact 44 (f := .free "int") rfl), He.free_ok X G (cd.fact 45 (f := .free "isinstance") rfl), He.free_ok X G (cd.fact 46 (f := .free "len") rfl), He.free_ok X G (cd.fact 47 (f := .free "list") rfl), He.free_ok X G (cd.fact 48 (f := .free "max") rfl), He.free_ok X G (cd.fact 49 (f := .free "min") rfl), He.free_ok X G (cd.fact 50 (f := .free "range") rfl), He.free_ok X G (cd.fact 51 (f := .free "reversed") rfl), He.free_ok X G (cd.fact 52 (f := .free "set") rfl), He.free_ok X G (cd.fact 53 (f := .free "sorted") rfl), He.free_ok X G (cd.fact 54 (f := .free "sum") rfl), He.free_ok X G (cd.fact 55 (f := .free "tuple") rfl), He.free_ok X G (cd.fact 56 (f := .free "zip") rfl), He.int_ok X G (cd.fact 57 (f := .int "MOST_POINTS" 40) rfl), He.int_ok X G (cd.fact 58 (f := .int "MOST_TIES" 120) rfl), He.int_ok X G (cd.fact 59 (f := .int "MOST_POINTS_FOR_ROOMS" 16) rfl)⟩
  cases hfa.symm.trans g_law
  obtain ⟨cc_pieces_of, hcd_pieces_of⟩ := code_at F_pieces_of
  obtain ⟨cc_levels_of, hcd_levels_of⟩ := code_at F_levels_of
  obtain ⟨cc_is_held, hcd_is_held⟩ := code_at F_is_held
  obtain ⟨cc_brims_of, hcd_brims_of⟩ := code_at F_brims_of
  have bl := FunD.bindsA (ps := ["_law_script"]) F_law fun _ _ _ _ _ _ us hl => match us, hl with | [_], _ => rfl
  refine ⟨fd_law, tf.map (He.cT K), sp_law K (tf.map fun p => (He.cT K p).2), fun p hp => ?_, fun p hp => ?_, fun p hp => ?_, fun s v => bl s [v] rfl, fun H a ns hl hbits hH hS => ?_, fun base KB GB hTB => ?_⟩
  · obtain ⟨d, hd, rfl⟩ := List.mem_map.mp hp
    exact c.empty d hd
  · obtain ⟨d, hd, rfl⟩ := List.mem_map.mp hp
    exact c.out d hd
  · obtain ⟨d, hd, rfl⟩ := List.mem_map.mp hp
    exact PySem.W.codeHd_of_K X (c.hd d hd)
  · exact law_start hl hbits (fun P hP => by
      obtain ⟨d, hd, rfl⟩ := List.mem_map.mp hP
      exact ⟨#[], hH _ (List.mem_map.mpr ⟨d, hd, rfl⟩), trivial, rfl⟩) hS
  · have G_leader_of := ok_leader_of (P := PySem.Challenge.rw_fewforests_k71_brims_by_all_lots.prog) (w := w) (base := base) (tb := tf.map fun p => (He.cT K p).2) T D_leader_of
    have G_join_points := ok_join_points (P := PySem.Challenge.rw_fewforests_k71_brims_by_all_lots.prog) (w := w) (base := base) (tb := tf.map fun p => (He.cT K p).2) T D_join_points D_leader_of G_leader_of
    have G_pieces_of := ok_pieces_of (P := PySem.Challenge.rw_fewforests_k71_brims_by_all_lots.prog) (w := w) (base := base) (tb := tf.map fun p => (He.cT K p).2) T D_pieces_of D_leader_of G_leader_of D_join_points G_join_points (hTB (He.cT K ("pieces_of", none)) (List.mem_map.mpr ⟨("pieces_of", none), by decide, rfl⟩)) (code_is F_pieces_of hcd_pieces_of) (List.mem_map.mpr ⟨("pieces_of", none), by decide, rfl⟩)
    have G_bounded_web := ok_bounded_web (P := PySem.Challenge.rw_fewforests_k71_brims_by_all_lots.prog) (w := w) (base := base) (tb := tf.map fun p => (He.cT K p).2) T D_bounded_web
    have G_tie_of := ok_tie_of (P := PySem.Challenge.rw_fewforests_k71_brims_by_all_lots.prog) (w := w) (base := base) (tb := tf.map fun p => (He.cT K p).2) T D_tie_of
    have G_with_tie := ok_with_tie (P := PySem.Challenge.rw_fewforests_k71_brims_by_all_lots.prog) (w := w) (base := base) (tb := tf.map fun p => (He.cT K p).2) T D_with_tie D_bounded_web G_bounded_web D_tie_of G_tie_of
    have G_ties_by_forest := ok_ties_by_forest (P := PySem.Challenge.rw_fewforests_k71_brims_by_all_lots.prog) (w := w) (base := base) (tb := tf.map fun p => (He.cT K p).2) T D_ties_by_forest
    have G_hang_tree := ok_hang_tree (P := PySem.Challenge.rw_fewforests_k71_brims_by_all_lots.prog) (w := w) (base := base) (tb := tf.map fun p => (He.cT K p).2) T D_hang_tree
    have G_hung_forest := ok_hung_forest (P := PySem.Challenge.rw_fewforests_k71_brims_by_all_lots.prog) (w := w) (base := base) (tb := tf.map fun p => (He.cT K p).2) T D_hung_forest D_hang_tree G_hang_tree
    have G_ring_between := ok_ring_between (P := PySem.Challenge.rw_fewforests_k71_brims_by_all_lots.prog) (w := w) (base := base) (tb := tf.map fun p => (He.cT K p).2) T D_ring_between
    have G_newly_reached := ok_newly_reached (P := PySem.Challenge.rw_fewforests_k71_brims_by_all_lots.prog) (w := w) (base := base) (tb := tf.map fun p => (He.cT K p).2) T D_newly_reached
    have G_first_free := ok_first_free (P := PySem.Challenge.rw_fewforests_k71_brims_by_all_lots.prog) (w := w) (base := base) (tb := tf.map fun p => (He.cT K p).2) T D_first_free D_ties_by_forest G_ties_by_forest D_hung_forest G_hung_forest D_ring_between G_ring_between D_newly_reached G_newly_reached
    have G_row_to := ok_row_to (P := PySem.Challenge.rw_fewforests_k71_brims_by_all_lots.prog) (w := w) (base := base) (tb := tf.map fun p => (He.cT K p).2) T D_row_to
    have G_levels_of := ok_levels_of (P := PySem.Challenge.rw_fewforests_k71_brims_by_all_lots.prog) (w := w) (base := base) (tb := tf.map fun p => (He.cT K p).2) T D_levels_of (hTB (He.cT K ("levels_of", none)) (List.mem_map.mpr ⟨("levels_of", none), by decide, rfl⟩)) (code_is F_levels_of hcd_levels_of) (List.mem_map.mpr ⟨("levels_of", none), by decide, rfl⟩)
    have G_ends_of := ok_ends_of (P := PySem.Challenge.rw_fewforests_k71_brims_by_all_lots.prog) (w := w) (base := base) (tb := tf.map fun p => (He.cT K p).2) T D_ends_of
    have G_push_tie := ok_push_tie (P := PySem.Challenge.rw_fewforests_k71_brims_by_all_lots.prog) (w := w) (base := base) (tb := tf.map fun p => (He.cT K p).2) T D_push_tie D_first_free G_first_free D_row_to G_row_to D_levels_of G_levels_of D_ends_of G_ends_of
    have G_is_beyond_rooms := ok_is_beyond_rooms (P := PySem.Challenge.rw_fewforests_k71_brims_by_all_lots.prog) (w := w) (base := base) (tb := tf.map fun p => (He.cT K p).2) T D_is_beyond_rooms
    have G_pairs_of := ok_pairs_of (P := PySem.Challenge.rw_fewforests_k71_brims_by_all_lots.prog) (w := w) (base := base) (tb := tf.map fun p => (He.cT K p).2) T D_pairs_of
    have G_is_held := ok_is_held (P := PySem.Challenge.rw_fewforests_k71_brims_by_all_lots.prog) (w := w) (base := base) (tb := tf.map fun p => (He.cT K p).2) T D_is_held (hTB (He.cT K ("is_held", none)) (List.mem_map.mpr ⟨("is_held", none), by decide, rfl⟩)) (code_is F_is_held hcd_is_held) (List.mem_map.mpr ⟨("is_held", none), by decide, rfl⟩)
    have G_rooms_of := ok_rooms_of (P := PySem.Challenge.rw_fewforests_k71_brims_by_all_lots.prog) (w := w) (base := base) (tb := tf.map fun p => (He.cT K p).2) T D_rooms_of D_with_tie G_with_tie D_push_tie G_push_tie D_is_beyond_rooms G_is_beyond_rooms D_pairs_of G_pairs_of D_is_held G_is_held
    have G_brims_of := ok_brims_of (P := PySem.Challenge.rw_fewforests_k71_brims_by_all_lots.prog) (w := w) (base := base) (tb := tf.map fun p => (He.cT K p).2) T D_brims_of D_pieces_of G_pieces_of D_rooms_of G_rooms_of (hTB (He.cT K ("brims_of", none)) (List.mem_map.mpr ⟨("brims_of", none), by decide, rfl⟩)) (code_is F_brims_of hcd_brims_of) (List.mem_map.mpr ⟨("brims_of", none), by decide, rfl⟩)
    have G__law_mixed := ok__law_mixed (P := PySem.Challenge.rw_fewforests_k71_brims_by_all_lots.prog) (w := w) (base := base) (tb := tf.map fun p => (He.cT K p).2) T D__law_mixed
    have G__law_deck := ok__law_deck (P := PySem.Challenge.rw_fewforests_k71_brims_by_all_lots.prog) (w := w) (base := base) (tb := tf.map fun p => (He.cT K p).2) T D__law_deck D__law_mixed G__law_mixed
    have G__law_next := ok__law_next (P := PySem.Challenge.rw_fewforests_k71_brims_by_all_lots.prog) (w := w) (base := base) (tb := tf.map fun p => (He.cT K p).2) T D__law_next
    have G__law_tie := ok__law_tie (P := PySem.Challenge.rw_fewforests_k71_brims_by_all_lots.prog) (w := w) (base := base) (tb := tf.map fun p => (He.cT K p).2) T D__law_tie D__law_next G__law_next
    have G__law_any_web := ok__law_any_web (P := PySem.Challenge.rw_fewforests_k71_brims_by_all_lots.prog) (w := w) (base := base) (tb := tf.map fun p => (He.cT K p).2) T D__law_any_web D__law_next G__law_next D__law_tie G__law_tie
    have G__law_round := ok__law_round (P := PySem.Challenge.rw_fewforests_k71_brims_by_all_lots.prog) (w := w) (base := base) (tb := tf.map fun p => (He.cT K p).2) T D__law_round
    have G__law_full := ok__law_full (P := PySem.Challenge.rw_fewforests_k71_brims_by_all_lots.prog) (w := w) (base := base) (tb := tf.map fun p => (He.cT K p).2) T D__law_full
    have G__law_tree := ok__law_tree (P := PySem.Challenge.rw_fewforests_k71_brims_by_all_lots.prog) (w := w) (base := base) (tb := tf.map fun p => (He.cT K p).2) T D__law_tree D__law_next G__law_next
    have G__law_web := ok__law_web (P := PySem.Challenge.rw_fewforests_k71_brims_by_all_lots.prog) (w := w) (base := base) (tb := tf.map fun p => (He.cT K p).2) T D__law_web D__law_next G__law_next D__law_any_web G__law_any_web D__law_round G__law_round D__law_full G__law_full D__law_tree G__law_tree
    have G__law_heads := ok__law_heads (P := PySem.Challenge.rw_fewforests_k71_brims_by_all_lots.prog) (w := w) (base := base) (tb := tf.map fun p => (He.cT K p).2) T D__law_heads
    have G__law_is_forest := ok__law_is_forest (P := PySem.Challenge.rw_fewforests_k71_brims_by_all_lots.prog) (w := w) (base := base) (tb := tf.map fun p => (He.cT K p).2) T D__law_is_forest D__law_heads G__law_heads
    have G__law_within := ok__law_within (P := PySem.Challenge.rw_fewforests_k71_brims_by_all_lots.prog) (w := w) (base := base) (tb := tf.map fun p => (He.cT K p).2) T D__law_within
    have G__law_lots := ok__law_lots (P := PySem.Challenge.rw_fewforests_k71_brims_by_all_lots.prog) (w := w) (base := base) (tb := tf.map fun p => (He.cT K p).2) T D__law_lots
    have G__law_laying := ok__law_laying (P := PySem.Challenge.rw_fewforests_k71_brims_by_all_lots.prog) (w := w) (base := base) (tb := tf.map fun p => (He.cT K p).2) T D__law_laying D__law_next G__law_next D__law_is_forest G__law_is_forest
    have G__law_in_layer := ok__law_in_layer (P := PySem.Challenge.rw_fewforests_k71_brims_by_all_lots.prog) (w := w) (base := base) (tb := tf.map fun p => (He.cT K p).2) T D__law_in_layer
    have G__law_is_tight := ok__law_is_tight (P := PySem.Challenge.rw_fewforests_k71_brims_by_all_lots.prog) (w := w) (base := base) (tb := tf.map fun p => (He.cT K p).2) T D__law_is_tight D__law_within G__law_within D__law_in_layer G__law_in_layer
    have G__law_tight_lots := ok__law_tight_lots (P := PySem.Challenge.rw_fewforests_k71_brims_by_all_lots.prog) (w := w) (base := base) (tb := tf.map fun p => (He.cT K p).2) T D__law_tight_lots D__law_lots G__law_lots D__law_is_tight G__law_is_tight
    have G__law_is_part := ok__law_is_part (P := PySem.Challenge.rw_fewforests_k71_brims_by_all_lots.prog) (w := w) (base := base) (tb := tf.map fun p => (He.cT K p).2) T D__law_is_part
    have G__law_greatest := ok__law_greatest (P := PySem.Challenge.rw_fewforests_k71_brims_by_all_lots.prog) (w := w) (base := base) (tb := tf.map fun p => (He.cT K p).2) T D__law_greatest D__law_is_part G__law_is_part
    have G_law := ok_law (P := PySem.Challenge.rw_fewforests_k71_brims_by_all_lots.prog) (w := w) (base := base) (tb := tf.map fun p => (He.cT K p).2) T D_law D_brims_of G_brims_of D__law_deck G__law_deck D__law_web G__law_web D__law_laying G__law_laying D__law_tight_lots G__law_tight_lots D__law_greatest G__law_greatest
    exact G_law
end FF
open PySem PySem.W PySem.Calls PyProof.Rows
theorem PySem.Challenge.cw_fewforests_k71_brims_by_all_lots_holds : PySem.Challenge.rw_fewforests_k71_brims_by_all_lots.Holds := by
  w_on; o_law
  refine HandSHeadRun.head_any (r := OpenLaw.row PySem.Challenge.rw_fewforests_k71_brims_by_all_lots) (q := view (OpenLaw.row PySem.Challenge.rw_fewforests_k71_brims_by_all_lots).prog [54]) (H := FF.hk) (ob := FF.ob) (M := 3000) (loose := FF.loose) (d := HandSHeadRun.topDef (OpenLaw.row PySem.Challenge.rw_fewforests_k71_brims_by_all_lots).prog 54) (kwd := []) FF.ob_eq
    (by kernel_rfl) (fun s => by kernel_rfl) FF.run (by kernel_rfl) (by kernel_rfl) (by kernel_rfl) (by rfl) (by first | assumption | decide +kernel) (by decide +kernel) ⟨rfl, rfl, rfl, rfl, rfl, by decide +kernel⟩ ?hw ?hc
  case hw => w_witness2
  case hc =>
    skip
    refine LamX.walk_ofTsE (l := PySem.Challenge.rw_fewforests_k71_brims_by_all_lots) (n := 63) (k := 11) (x := "_law_script") (CX := fun _ => L2.CX0) rfl (by decide) (by kernel_rfl) ⟨rfl, by decide, by decide⟩ ?F (fun _ _ _ _ _ z => z)
    intro w mg fa h Y G hmg0
    obtain ⟨K, KX, c⟩ := Y
    have hmg : mg ("law" : PySem.Str) = some (.ref fa) := by
      have e : (HandSHeadRun.topDef (OpenLaw.row PySem.Challenge.rw_fewforests_k71_brims_by_all_lots).prog 54).name = ("law" : PySem.Str) := by kernel_rfl
      rw [← e]
      exact hmg0
    exact ⟨K, KX, FF.lawAt KX G hmg c⟩

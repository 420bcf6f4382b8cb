import PyProof.Rows.All
import Wide.All
import OpenK.AllK
import Wide.FinOn
import KE.KStateDown
import Lean
import HandS.ForMost
import HandS.More
import HandS.Conv
import HandS.Flow
import HandS.Style
import HandS.Strs
import HandS.Codes
import HandS.SetFor
import HandS.TupSets
import HandS.SortRule
import HandS.SortInts
import HandS.TupLe
import HandS.TupAny
import HandS.IsInst
import HandS.RevTup
import HandS.Rev
import HandS.Zip
import KE.GoesEnum
import KE.GoesMore
import KE.GoesZip
import KE.KDictZip
import HandS.Walk
import HandS.SetKeys
import HandS.Defaults
import HandS.Wide
import HandS.Lambda
import HandS.GenOver
import HandS.DictComp
import HandS.AnyAll
import HandS.RevRange
import HandS.Head0
import HandS.Head1
import HandS.Head2
import HandS.HeadEnd
import HandS.HeadHook1
import HandS.HeadHook2
import HandS.HeadHook3
import HandS.HeadHook4
import HandS.EndTab
import HandS.HeadWalk
import KE.DatumOrd
import HandS.TupMul
import KE.KTupSum
import HandS.SetBool
import HandS.ExcIs
import HandS.TryMany
import HandS.TryOnly
import HandS.ExcOwn
import HandS.Exc
import KE.SortData
import KE.SortKeyHeap
import HandS.Deep
import HandS.HotCalls
import HandS.SortKw
import PySem.Challenge.RW_fewforests_k80_whole_cut_and_kept
set_option Elab.async false
set_option linter.all false
set_option maxRecDepth 100000
set_option maxHeartbeats 0
namespace FF
open PySem PySem.Spec PyProof.Rows L2
/-- which tables of code objects are those of defs with a lambda (told when the text's end is reached) -/
class LT where
  lam : Addr → Bool
end FF
namespace FF
open PySem PySem.Spec PyProof.Rows L2
variable [LT]
/-! ### list(reversed(xs)) -/
section
variable {prog : Program} {w : World} {A : Around} {E : Value → Shared → Prop} {s : Shared}
theorem extRev {itr src : Addr} {its : Array Value} {R : Result → Shared → Prop} (calm : A.handled = none) (S : Addr) (res : Value) (c0 : Nat)
    (hS : s.heap.get? S = some { cls := .type "list", data := .seq #[] c0 }) (hit : s.heap.IsRevIter itr src ((its.size : Int) - 1)) (hl : s.heap.IsList src its) (hne : src ≠ itr) (hSi : S ≠ itr) (hSl : S ≠ src) (hn : its.size ≤ sizeLine)
    (fin : ∀ h' tk acc c, (∀ b o, b ≠ itr → b ≠ S → s.heap.get? b = some o → h'.get? b = some o) → h'.get? S = some { cls := .type "list", dict := none, data := .seq acc c, slots := #[] } →
      ItemsOf (fun i v => its[its.size - 1 - i]? = some v) acc its.size → R (.ok (.ret res)) { s with heap := h', toks := tk }) :
    wpAny (model prog w) A.in1 (Builtin.List.listExtendWith (.ref S) (.ref itr) res)
      (fun f s' => match f with | .done z => R (.ok z) s' | .again c' => c'.quiet = true ∧ codeAny (model prog w) A c' R s') (fun e s' => R (.error e) s') s := by
  have W := (Walks.listRev (prog := prog) (w := w) (A := A.in1) calm itr src hne its).toS
  have hT : s.TypeIs (.ref itr) "list_reverseiterator" := hit.typeIs
  have h1 : Builtin.List.listSameRef (.ref S) (.ref itr) = false := by simp [Builtin.List.listSameRef, hSi]
  unfold Builtin.List.listExtendWith
  refine wpAny_bind (wpAny_typeOf hT ?_)
  rw [if_neg (by rw [h1]; decide)]
  refine wpAny_bind (wpAny_pyIter_revIter hit ?_)
  refine wpAny_bind (wpAny_holding ?_)
  unfold Builtin.List.listLengthHint
  refine wpAny_bind (wpAny_specialOf hT RT.nolen_lri ?_)
  show wpAny _ A.in1 (specialOf (Value.ref itr) (Str.ofString "__length_hint__") >>= _) _ _ _
  refine wpAny_bind (wpAny_specialOf hT RT.hint_lri ?_)
  generalize hid : ("list_reverseiterator.__length_hint__" : String) = hint
  wp_delta
  rw [show splitId hint = some ("list_reverseiterator", "__length_hint__") from by subst hid; decide +kernel]
  subst hid
  refine wpAny_bind (wpAny_isInstance (b := true) hT (by rw [isSubtype_type]; kernel_rfl) ?_)
  refine wpAny_pure ?_
  rw [if_neg (by decide)]
  have e0 : ((its.size : Nat) : Int) - 1 - ((0 : Nat) : Int) = (its.size : Int) - 1 := by omega
  have hSf : S ∉ [itr, src] := by simp only [List.mem_cons, List.not_mem_nil, or_false, not_or]; exact ⟨hSi, hSl⟩
  refine wpAny_pure ⟨plainId_quiet F.plain_extend_loop _, codeAny_extend_loopS W hn S hSf _ its.size 0 _ _ _ rfl (Nat.zero_le _) ⟨Nat.zero_le _, by rw [e0]; exact hit, hl⟩ hS (ItemsOf.nil _) fun s' acc c hm hS' hacc => ?_⟩
  rw [Moved.eq_with hm]
  refine fin s'.heap s'.toks acc c (fun b o hb hb2 e => hm.heap b o (fun z => ?_) e) hS' hacc
  rcases List.mem_cons.mp z with z | z
  · exact hb2 z
  · exact hb (List.mem_singleton.mp z)
theorem initRev {itr src : Addr} {its : Array Value} {R : Result → Shared → Prop} (calm : A.handled = none) (S : Addr)
    (hS : s.heap.get? S = some { cls := .type "list", data := .seq #[] }) (hit : s.heap.IsRevIter itr src ((its.size : Int) - 1)) (hl : s.heap.IsList src its) (hne : src ≠ itr) (hSi : S ≠ itr) (hSl : S ≠ src) (hn : its.size ≤ sizeLine)
    (fin : ∀ h' tk acc c, (∀ b o, b ≠ itr → b ≠ S → s.heap.get? b = some o → h'.get? b = some o) → h'.get? S = some { cls := .type "list", dict := none, data := .seq acc c, slots := #[] } →
      ItemsOf (fun i v => its[its.size - 1 - i]? = some v) acc its.size → R (.ok (.ret .none)) { s with heap := h', toks := tk }) :
    wpAny (model prog w) A.in1 (Builtin.«list.__init__» ⟨[.ref S, .ref itr], []⟩)
      (fun f s' => match f with | .done z => R (.ok z) s' | .again c' => c'.quiet = true ∧ codeAny (model prog w) A c' R s') (fun e s' => R (.error e) s') s := by
  show wpAny _ _ (do let old ← Builtin.List.listItems (.ref S); Builtin.List.listUpdate (.ref S) (fun _ => #[]); letGo old.toList.reverse; Builtin.List.listExtendWith (.ref S) (.ref itr) .none) _ _ s
  refine wpAny_bind ?_
  unfold Builtin.List.listItems
  refine wpAny_bind (wpAny_seqItems hS rfl (wpAny_pure ?_))
  show wpAny _ _ (updateSeq S (fun _ => #[]) >>= fun _ => letGo (#[] : Array Value).toList.reverse >>= fun _ => Builtin.List.listExtendWith (.ref S) (.ref itr) .none) _ _ s
  refine wpAny_bind (wpAny_updateSeq hS rfl ?_)
  have hS2 := Heap.get?_update_self (Obj.mapSeq (fun _ => (#[] : Array Value))) hS rfl
  have oth : ∀ b o, b ≠ S → s.heap.get? b = some o → (s.heap.update S (Obj.mapSeq (fun _ => (#[] : Array Value)))).get? b = some o :=
    fun b o hb e => (Heap.get?_update_other _ _ (Ne.symm hb)).trans e
  refine wpAny_bind (wpAny_letGo ?_)
  obtain ⟨oi, hoi, ri⟩ := hit
  obtain ⟨ol, hol, rl⟩ := hl
  refine extRev (its := its) calm S .none _ hS2 ⟨oi, oth _ _ (Ne.symm hSi) hoi, ri⟩ ⟨ol, oth _ _ (Ne.symm hSl) hol, rl⟩ hne hSi hSl hn fun h' tk acc c hk hS' hacc => ?_
  exact fin h' tk acc c (fun b o hb hb2 e => hk b o hb hb2 (oth b o hb2 e)) hS' hacc
theorem listRev {itr src : Addr} {its : Array Value} {Q : Value → Shared → Prop} (calm : A.handled = none) (hit : s.heap.IsRevIter itr src ((its.size : Int) - 1)) (hl : s.heap.IsList src its) (hne : src ≠ itr) (hn : its.size ≤ sizeLine)
    (fin : ∀ h' tk acc c, (∀ b o, b ≠ itr → s.heap.get? b = some o → h'.get? b = some o) → h'.get? s.heap.objs.size = some { cls := .type "list", dict := none, data := .seq acc c, slots := #[] } →
      ItemsOf (fun i v => its[its.size - 1 - i]? = some v) acc its.size → Q (.ref s.heap.objs.size) { s with heap := h', toks := tk }) :
    wpAny (model prog w) A (call (.type "list") [.ref itr]) Q E s := by
  refine callType_codes (Q₁ := fun obj t => obj = .ref s.heap.objs.size ∧ t = { s with heap := s.heap.push { cls := .type "list", data := .seq #[] } }) F.called_list (F.typeCall_list_1 _) F.entry_list_init
    (code_list_new _ ⟨rfl, rfl⟩) fun obj t ht => ?_
  obtain ⟨rfl, rfl⟩ := ht
  have hS : (s.heap.push { cls := .type "list", data := .seq #[] }).get? s.heap.objs.size = some { cls := .type "list", data := .seq #[] } := Heap.get?_push_size _ rfl
  obtain ⟨oi, hoi, ri⟩ := hit
  obtain ⟨ol, hol, rl⟩ := hl
  refine ⟨⟨_, hS, rfl⟩, F.args_list_init_2 _ _, initRev (its := its) (A := A.in1) calm _ hS ⟨oi, Heap.get?_push_of_some _ hoi, ri⟩ ⟨ol, Heap.get?_push_of_some _ hol, rl⟩ hne (Nat.ne_of_gt (Heap.lt_size hoi)) (Nat.ne_of_gt (Heap.lt_size hol)) hn fun h' tk acc c hk hS' hacc => ?_⟩
  exact ⟨rfl, fin h' tk acc c (fun b o hb e => hk b o hb (Nat.ne_of_lt (Heap.lt_size e)) (Heap.get?_push_of_some _ e)) hS' hacc⟩
end
section
variable {X : Cx}
def tLstRev (K : PySem.W.Frag) (te : TE) : TE := fun σ H Q => te σ H fun v H1 => ∃ (a : Addr) (xs : List V), v = .ref a ∧ SqL K H1 a xs ∧ ∀ q, H1 q = none → Q (.ref q) (upd H1 q (.lst xs.reverse))
theorem pe_listRev {e : Expr} {te : TE} {p p2 pos pos2 : Pos} (hc : X.calm = true) (hg : Gl X "list") (hm : X.mg "list" = none) (hg2 : Gl X "reversed") (hm2 : X.mg "reversed" = none) (he : PE X e te)
    (hs : starEach [e] X.env = (false, eval e X.env) :: starEach [] X.env := by rfl)
    (hs2 : starEach [.Call (.Name "reversed" p2) [e] [] pos2] X.env = (false, eval (.Call (.Name "reversed" p2) [e] [] pos2) X.env) :: starEach [] X.env := by rfl) :
    PE X (.Call (.Name "list" p) [.Call (.Name "reversed" p2) [e] [] pos2] [] pos) (tLstRev X.K te) := by
  refine ⟨fun pins s σ H Q I h => ?_⟩
  refine Call_ (ld_blt I hg hm boot_list (PyProof.Rows.callWith_type1 (args_cons (Call_ (ld_blt I hg2 hm2 PyProof.Rows.boot_reversed (PyProof.Rows.callWith_type1 (args_cons (thn (he.run pins s σ H _ I h) fun u s1 ⟨v, H1, I1, r1, q1⟩ => args_nil ?_) hs) hs rfl))) hs2) hs2 rfl))
  obtain ⟨a, xs, ev, hq, q⟩ := q1
  subst ev
  obtain rfl : u = Value.ref a := r1
  obtain ⟨its, rv, pl, hz⟩ := I1.list hq
  refine call_reversed_list pl.isList (args_nil ?_)
  have I2 : Inv X pins σ H1 { s1 with heap := s1.heap.push (revObj a ((its.toArray.size : Int) - 1)) } := I1.kept (t' := s1.toks) fun b o e => Heap.get?_push_of_some _ e
  obtain ⟨f0, f1, f2, f3, f4, f5⟩ := I1.fpOk (H' := H1) (b := s1.heap.objs.size) (Nat.le_refl _) (I1.hok.fresh (Nat.le_refl _))
  have hl := pl.isList
  obtain ⟨ol, hol, _⟩ := id hl
  have hn : its.toArray.size ≤ sizeLine := by rw [List.size_toArray, ← rv.length]; exact hz
  refine listRev (s := { s1 with heap := s1.heap.push (revObj a ((its.toArray.size : Int) - 1)) }) (I1.ok.hd hc) ⟨_, Heap.get?_push_size _ rfl, rfl, rfl⟩ (hl.push _) (Nat.ne_of_lt (Heap.lt_size hol)) hn fun h' tk acc c hk hS hi => ?_
  have hfr : H1 (s1.heap.push (revObj a ((its.toArray.size : Int) - 1))).objs.size = none := I2.hok.fresh (Nat.le_refl _)
  have J := I2.step (H' := upd H1 (s1.heap.push (revObj a ((its.toArray.size : Int) - 1))).objs.size (.lst xs.reverse)) (h' := h') (g' := s1.gens) (d' := s1.drawn) (t' := tk) (ch := [s1.heap.objs.size])
    (fun b hb => by rw [List.mem_singleton.mp hb]; exact ⟨f3, f1, f4, f5⟩)
    (fun b o _ _ hc e _ => hk b o (fun z => hc (by rw [z]; exact List.mem_singleton.mpr rfl)) e)
    (fun b o _ _ hc e _ => ⟨o.slots, hk b o (fun z => hc (by rw [z]; exact List.mem_singleton.mpr rfl)) e⟩)
    (fun b o _ e n => by rw [upd_ne (Nat.ne_of_lt (Heap.lt_size e))]; exact n)
    (fun b o hc e => ⟨o, hk b o (fun z => hc (by rw [z]; exact List.mem_singleton.mpr rfl)) e⟩)
    (fun b ys e => by rw [upd_ne (ne_of_none e hfr)]; exact e) (fun b o ys e => by rw [upd_ne (ne_of_none e hfr)]; exact e) (fun b ps e => ⟨#[], by rw [upd_ne (ne_of_none e hfr), e]; simp⟩)
    (fun m hm => by
      obtain ⟨o, es, ep, ho, r⟩ := hm
      exact ⟨o, es, ep, hk _ o (Ne.symm f1) ho, r⟩)
    (fun b u e => by
      by_cases hb : b = (s1.heap.push (revObj a ((its.toArray.size : Int) - 1))).objs.size
      · rw [hb, upd_same] at e
        cases e
        rw [hb]
        exact ⟨by rw [List.length_reverse]; exact hz, acc.toList, c, RT.vals_rev rv hi, by rw [Array.toArray_toList]; exact hS⟩
      · rw [upd_ne hb] at e
        refine (I2.hok b u e).stay (fun d v hd q => hk d v ?_ q) (fun d q => by rw [upd_ne (ne_of_none q hfr)]; exact q) fun d ys q => by rw [upd_ne (ne_of_none q hfr)]; exact q
        rcases hd with rfl | hd
        · exact fun z => by rw [z, f0] at e; cases e
        · exact fun z => by rw [z, f0] at hd; cases hd) I2.bare
  exact ⟨.ref _, _, J, rfl, q _ hfr⟩
end
end FF
namespace FF
open PySem PySem.Spec PyProof.Rows L2
variable [LT]
/-! ### len(set(xs)), sorted(set(xs)) of ints -/
def nub (ns : List Int) : List Int := ns.foldl step_dedup []
theorem met_nub (ns : List Int) : firstMet (fun i => ns.getD i 0) ns.length = nub ns := by
  unfold firstMet nub
  have e : (List.range ns.length).map (fun i => ns.getD i 0) = ns := by
    apply List.ext_getElem
    · simp
    · intro i h1 h2
      simp [List.getElem?_eq_getElem h2]
  rw [e]
theorem nub_length (ns : List Int) : (nub ns).length ≤ ns.length := by
  rw [← met_nub]
  exact firstMet_length_le _ _
section
variable {X : Cx}
def tLenSetL (K : PySem.W.Frag) (ta : TE) : TE := fun σ H Q => ta σ H fun x H1 => ∃ (l : Addr) (ns : List Int), x = V.ref l ∧ SqL K H1 l (ns.map V.int) ∧ ns.length ≤ 1000 ∧ Q (.int (nub ns).length) H1
theorem pe_lenSetL {a : Expr} {ta : TE} {p p2 q pos : Pos} (hg : Gl X "len") (hm : X.mg "len" = none) (hg2 : Gl X "set") (hm2 : X.mg "set" = none) (ha : PE X a ta) (hc : X.calm = true := by rfl)
    (na : starEach [a] X.env = (false, eval a X.env) :: starEach [] X.env := by rfl) : PE X (.Call (.Name "len" p) [.Call (.Name "set" p2) [a] [] q] [] pos) (tLenSetL X.K ta) := by
  refine ⟨fun pins s σ H Q I h => Call_ (ld_blt I hg hm boot_len (PyProof.Rows.callWith_builtin1 (PyProof.Rows.args_cons (Call_ (ld_blt I hg2 hm2 boot_set ?_)) rfl) rfl rfl))⟩
  refine PyProof.Rows.callWith_type1 (PyProof.Rows.args_cons (thn (ha.run pins s σ H _ I h) fun v t ⟨x, G, J, rx, qx⟩ => PyProof.Rows.args_nil ?_) na) na rfl
  obtain ⟨l, ns, rfl, hq, hl, qx⟩ := qx
  cases rx
  obtain ⟨its, r, pl, hz⟩ := J.list hq
  have hlen : its.toArray.size = ns.length := by rw [List.size_toArray, ← r.length, List.length_map]
  refine call_set_list (J.ok.hd hc) pl.isList (by simpa using RZ.intsAre_vals r) (by rw [hlen]; unfold scanBound; omega) fun h' tk hS hk => PyProof.Rows.args_nil ?_
  rw [hlen, met_nub] at hS
  obtain ⟨o, es, ep, tb, ho, hex, hd, _, _, _, hf, hn⟩ := hS
  have J2 : Inv X pins σ G { t with heap := h', toks := tk } := J.kept fun b o e => hk b o (Heap.lt_size e) e
  have hnub := nub_length ns
  exact call_len_set ho hex hd hf (by rw [hn]; omega) ⟨.int (nub ns).length, G, J2.tok _, ⟨_, by rw [hn]⟩, qx⟩
end
section
variable {P : Program} {w : World} {A : Around} {E : Value → Shared → Prop} {s : Shared}
end
section
variable {X : Cx}
end
end FF
namespace FF
open PySem PySem.Spec PyProof.Rows L2
variable [LT]
/-! ### generator expressions: a turn, the frame, the protocol -/
section
variable {α : Type}
/-- what a generator expression is made of: its syntax, its frame's context, its iterator, the consumer's objects and what they hold -/
structure GxD (α : Type) where
  Z : Cx
  elt : Expr
  tg : Expr
  iter : Expr
  ifs : List Expr
  scope : Scope
  pos : Pos
  it : Addr
  fp : List Addr
  tn : Nat → Heap → Prop
  J : It
  prot : List Addr
  Acc : α → Heap → Prop
  W : Nat → Nat → α → Hp → Prop
  Yl : α → V → Hp → (α → Hp → Prop) → Prop
  Dn : α → Hp → Prop
  σ0 : L2.St
  vs : List Nat
abbrev GxD.expr (D : GxD α) : Expr := .GeneratorExp D.elt [⟨D.tg, D.iter, D.ifs, 0⟩] D.scope D.pos
abbrev GxD.loop (D : GxD α) : Code := .compLoop D.expr 0 (.ref D.it) .none D.Z.env
abbrev GxD.begin (D : GxD α) : Code := .compStart D.expr 0 (.ref D.it) .none D.Z.env
/-- the frame's invariant, the consumer's objects pinned as they stand -/
def GxD.Inv (D : GxD α) (pins : List (Addr × Obj)) (H : Hp) (s : Shared) : Prop :=
  pins.map (·.1) = D.prot ∧ L2.Inv D.Z pins D.σ0 H s ∧ ∀ b ∈ D.fp, FpOk D.Z pins H b
def GxD.Y (D : GxD α) : Protocol := fun _ s₀ v s kap => ∃ (i : Nat) (a : α) (pins : List (Addr × Obj)) (H : Hp) (x : V) (Nx : α → Hp → Prop),
  RelV x v ∧ s₀.gens.size ≤ s.gens.size ∧ D.Acc a s₀.heap ∧ (∀ p ∈ pins, s₀.heap.get? p.1 = some p.2) ∧ D.Inv pins H s ∧ D.tn (i + 1) s.heap ∧ D.Yl a x H Nx ∧
  ∀ (s' : Shared) (pins' : List (Addr × Obj)) (H' : Hp) (a' : α), D.Inv pins' H' s' → D.tn (i + 1) s'.heap → D.Acc a' s'.heap → Nx a' H' → kap (.send .none) s'
def GxD.P (D : GxD α) : Nat → Shared → Shared → Prop := fun _ s₀ s => ∃ (a : α) (pins : List (Addr × Obj)) (H : Hp),
  D.Acc a s₀.heap ∧ (∀ p ∈ pins, s₀.heap.get? p.1 = some p.2) ∧ D.Inv pins H s ∧ D.Dn a H
abbrev GxD.R (D : GxD α) : GenEnd := fun n s₀ r s => r = .ok .next ∧ D.P n s₀ s
/-- the syntax keeps to its rules; what a turn does -/
structure GxD.Ok (D : GxD α) (g : TG) (tt : TT) (te : TE) : Prop where
  calm : D.Z.calm = true
  xe : D.Z.xe = fun _ _ => False
  co : D.Z.env.scope.isCoroutine = false
  turn : Turn D.Z.prog D.Z.w D.Z.K D.tg D.J D.fp D.it D.tn
  pg : PG D.Z D.tg g
  pt : PTs D.Z D.ifs tt
  pe : PE D.Z D.elt te
  step : ∀ i m a H, D.W i m a H → (D.J.stop i H ∧ D.Dn a H) ∨ (D.J.go i H ∧ ∃ Nx : α → Hp → Prop, (∀ a' H', Nx a' H' → ∃ m', m' < m ∧ D.W (i + 1) m' a' H') ∧
    ∀ x H1, D.J.yld i H x H1 → g x D.σ0 H1 fun σ2 H2 => wipe σ2 D.vs = D.σ0 ∧ tt σ2 H2 fun b H3 => if b = true then te σ2 H3 fun y H4 => D.Yl a y H4 Nx else Nx a H3)
theorem gx_seg {D : GxD α} {g : TG} {tt : TT} {te : TE} (ok : D.Ok g tt te) {A : Around} (hA : A.over D.loop [] = D.Z.A) :
    ∀ (m i n : Nat) (s₀ s : Shared) (pins : List (Addr × Obj)) (H : Hp) (a : α), m < n → s₀.gens.size ≤ s.gens.size → D.Inv pins H s → D.tn i s.heap → D.Acc a s₀.heap → (∀ p ∈ pins, s₀.heap.get? p.1 = some p.2) → D.W i m a H →
      Seg (model D.Z.prog D.Z.w) A D.R D.Y n s₀ D.loop ((model D.Z.prog D.Z.w).den D.loop) [] s := by
  intro m
  induction m using Nat.strongRecOn with
  | _ m ih =>
    intro i n s₀ s pins H a hmn hz GI ht hacc hp0 hw
    obtain ⟨hpr, I, hf⟩ := GI
    have T := ok.turn
    show Seg _ A _ _ _ s₀ _ ((compTurn D.expr 0 (.ref D.it) .none D.Z.env).onRaise (leaving D.Z.env)) [] s
    rw [compTurn_gen, Sem.onRaise_eq_wrap]
    refine seg_bind_wrap (wpAny_standAt ?_)
    rcases ok.step i m a H hw with ⟨stop, dn⟩ | ⟨go, Nx, hNx, st⟩
    · refine seg_bind_wrap ?_
      rw [hA]
      refine thnF (T.done D.Z rfl rfl rfl ok.calm i pins s D.σ0 H (fun _ _ => False) I hf ht stop) fun r t ⟨hr, J⟩ => ?_
      subst hr
      exact seg_end (.ok .next) ⟨rfl, a, pins, H, hacc, hp0, ⟨hpr, J, hf⟩, dn⟩
    · refine seg_bind_wrap ?_
      rw [hA]
      refine GenW.wpAny_gsz hz (thnF (T.item D.Z rfl rfl rfl ok.calm i pins s D.σ0 H (fun _ _ => False) I hf ht go) fun r t ⟨u, hr, h1⟩ z0 => ?_)
      subst hr
      refine seg_bind_wrap ?_
      rw [hA]
      refine GenW.wpAny_gsz z0 (thnF h1 fun _ t1 ⟨x, H1, I1, r1, y1, tn1, n1⟩ z1 => ?_)
      have f1 : ∀ b ∈ D.fp, FpOk D.Z pins H1 b := fun b hb => ⟨n1 b hb, (hf b hb).2⟩
      have I1p := I1.pinned f1 (T.obj _ _ tn1)
      have hpg := ok.pg.run _ t1 D.σ0 H1 x u _ I1p r1 (st x H1 y1)
      rw [ok.xe] at hpg
      refine seg_bind_wrap ?_
      rw [hA]
      refine GenW.wpAny_gsz z1 (thnF hpg fun _ t2 ⟨σ2, H2, I2, w2, q2⟩ z2 => ?_)
      have hpt := ok.pt.run _ t2 σ2 H2 _ I2 q2
      rw [ok.xe] at hpt
      refine seg_bind_wrap ?_
      rw [hA]
      refine GenW.wpAny_gsz z2 (thnF hpt fun b t3 ⟨H3, I3, q3⟩ z3 => ?_)
      -- what holds at the turn's end
      have fin : ∀ {t' : Shared} {H' : Hp}, L2.Inv D.Z (pins ++ pinsAt D.fp t1.heap) σ2 H' t' → D.Inv pins H' t' ∧ D.tn (i + 1) t'.heap := fun {t' H'} J => by
        have pin' : ∀ b ∈ D.fp, ∀ o, t1.heap.get? b = some o → t'.heap.get? b = some o ∧ H' b = none := fun b hb o e =>
          let z := J.pin (b, o) (List.mem_append_right _ (List.mem_append_right _ (mem_pinsAt hb e)))
          ⟨z.1, z.2.1⟩
        have hl : D.σ0.length = σ2.length := by rw [← w2, wipe_length]
        refine ⟨⟨hpr, J.unpinned.weak hl (fun j v e => by rw [← w2] at e; exact (wipe_some e).1), fun b hb => ?_⟩, T.keep _ _ _ tn1 fun b hb o e => (pin' b hb o e).1⟩
        obtain ⟨o, e, _⟩ := T.obj _ _ tn1 b hb
        exact ⟨(pin' b hb o e).2, (hf b hb).2⟩
      cases b with
      | false =>
        simp only [Bool.false_eq_true, if_false] at q3 ⊢
        obtain ⟨m', hm', w'⟩ := hNx a H3 q3
        obtain ⟨G3, tn3⟩ := fin I3
        exact seg_again rfl (ih m' hm' (i + 1) n s₀ t3 pins H3 a (by omega) z3 G3 tn3 hacc hp0 w')
      | true =>
        simp only [if_true] at q3 ⊢
        have hy : ∀ v, yieldOut D.Z.env v = yieldValue v := fun v => by simp only [yieldOut, ok.co, Bool.false_eq_true, if_false]
        simp only [hy]
        rw [Sem.bind_eq_wrap', Sem.bind_eq_wrap', Sem.wrap_wrap, Sem.wrap_wrap]
        have hpe := ok.pe.run _ t3 σ2 H3 _ I3 q3
        rw [ok.xe] at hpe
        refine seg_wrap ?_
        rw [hA]
        refine GenW.wpAny_gsz z3 (thnF hpe fun y t4 ⟨z, H4, I4, r4, q4⟩ z4 => ?_)
        obtain ⟨n', rfl⟩ : ∃ n', n = n' + 1 := ⟨n - 1, by omega⟩
        obtain ⟨G4, tn4⟩ := fin I4
        refine seg_at (seg_yield rfl rfl rfl ⟨i, a, pins, H4, z, Nx, r4, z4, hacc, hp0, G4, tn4, q4, fun t' pins' H' a' G' tn' hacc' nx => ?_⟩)
        obtain ⟨m', hm', w'⟩ := hNx a' H' nx
        exact seg_again rfl (ih m' hm' (i + 1) n' t' t' pins' H' a' (by omega) (Nat.le_refl _) G' tn' hacc' (fun p hp => (G'.2.1.pin p (List.mem_append_right _ hp)).1) w')
theorem gx_begin {D : GxD α} {g : TG} {tt : TT} {te : TE} (ok : D.Ok g tt te) {A : Around} (hA : A.over D.loop [] = D.Z.A) {m n : Nat} {s : Shared} {pins : List (Addr × Obj)} {H : Hp} {a : α}
    (hmn : m < n) (G : D.Inv pins H s) (ht : D.tn 0 s.heap) (hacc : D.Acc a s.heap) (hw : D.W 0 m a H) :
    Seg (model D.Z.prog D.Z.w) A D.R D.Y n s D.begin ((model D.Z.prog D.Z.w).den D.begin) [] s := by
  have loop := gx_seg ok hA m 0 n s s pins H a hmn (Nat.le_refl _) G ht hacc (fun p hp => (G.2.1.pin p (List.mem_append_right _ hp)).1) hw
  show Seg _ A _ _ _ s _ ((compStart D.expr 0 (.ref D.it) .none D.Z.env).onRaise (leaving D.Z.env)) [] s
  unfold compStart
  rw [Sem.onRaise_eq_wrap]
  show Seg _ A _ _ _ s _ ((ask >>= _).wrap _ _ _ _) [] s
  refine seg_bind_wrap (wpAny_askSetting ?_)
  split
  · exact seg_again rfl loop
  · first
      | exact seg_bind_wrap (wpAny_rule (seg_bind_wrap (wpAny_standAt (seg_bind_wrap (ok.turn.self _ 0 s _ _ ht (seg_again rfl loop))))))
      | (refine seg_bind_wrap (wpAny_rule ?_); show Seg _ A _ _ _ s _ ((standAt D.iter.pos >>= _).wrap _ _ _ _) [] s; exact seg_bind_wrap (wpAny_standAt (seg_bind_wrap (ok.turn.self _ 0 s _ _ ht (seg_again rfl loop)))))
end
end FF
namespace FF
open PySem PySem.Spec PyProof.Rows L2
variable [LT]
/-! ### generator expressions: the consumer's side -/
section
variable {α : Type}
theorem Inv.gens {X : Cx} {pins : List (Addr × Obj)} {σ : L2.St} {H : Hp} {s : Shared} (I : L2.Inv X pins σ H s) {G : Array GenState} (hG : AllBare G) : L2.Inv X pins σ H { s with gens := G } :=
  ⟨I.ok, I.os, hG, I.base, I.loc, I.cell, I.free, I.freeC, I.pin, I.hok, I.len⟩
theorem bare_set {G : Array GenState} {g : Nat} {x : GenState} (h : AllBare G) (hx : x.bare = true) : AllBare (G.setIfInBounds g x) := fun y hy => by
  obtain ⟨i, hi, rfl⟩ := Array.mem_iff_getElem.mp hy
  rw [Array.getElem_setIfInBounds (by simpa using hi)]
  split
  · exact hx
  · exact h _ (Array.getElem_mem _)
theorem GxD.Inv.setGen {D : GxD α} {pins : List (Addr × Obj)} {H : Hp} {s : Shared} (G : D.Inv pins H s) {g : Nat} {x : GenState} (hx : x.bare = true) : D.Inv pins H (s.setGen g x) :=
  ⟨G.1, Inv.gens G.2.1 (bare_set G.2.1.bare hx), G.2.2⟩
/-- the generator g at ga sleeps; n: more than it will hand out; a: what the consumer has -/
structure GxD.Live (D : GxD α) (A : Around) (ga : Addr) (g n : Nat) (a : α) (s : Shared) : Prop where
  mem : ga ∈ D.prot
  isg : s.heap.IsGen ga g
  acc : D.Acc a s.heap
  inv : ∃ pins H, D.Inv pins H s
  go : ∃ gs, s.gens[g]? = some gs ∧ gs.Goes (model D.Z.prog D.Z.w) A.in1 D.R D.Y n (.send .none) (s.setGen g .running)
/-- it has handed out x, the heap is H; where the consumer comes to Nx it lives on -/
structure GxD.Told (D : GxD α) (A : Around) (ga : Addr) (g n : Nat) (a : α) (x : V) (H : Hp) (Nx : α → Hp → Prop) (s : Shared) : Prop where
  inv : ∃ pins, D.Inv pins H s
  acc : D.Acc a s.heap
  yl : D.Yl a x H Nx
  isg : s.heap.IsGen ga g
  on : ∃ i, D.tn (i + 1) s.heap ∧ ∀ (s' : Shared) (pins' : List (Addr × Obj)) (H' : Hp) (a' : α), s'.gens = s.gens → s'.heap.IsGen ga g → D.Inv pins' H' s' → D.tn (i + 1) s'.heap → D.Acc a' s'.heap → Nx a' H' → ∃ n', n = n' + 1 ∧ D.Live A ga g n' a' s'
theorem pins_same {D : GxD α} {pins : List (Addr × Obj)} {H : Hp} {s s₀ : Shared} (G : D.Inv pins H s) (h0 : ∀ p ∈ pins, s₀.heap.get? p.1 = some p.2) {b : Addr} (hb : b ∈ D.prot) : s.heap.get? b = s₀.heap.get? b := by
  rw [← G.1] at hb
  obtain ⟨p, hp, e⟩ := List.mem_map.mp hb
  rw [← e, (G.2.1.pin p (List.mem_append_right _ hp)).1, h0 p hp]
theorem GxD.Told.stay {D : GxD α} {A : Around} {ga : Addr} {g n : Nat} {a a' : α} {x : V} {H : Hp} {Nx : α → Hp → Prop} {s : Shared} (T : D.Told A ga g n a x H Nx s) (tk : Nat) (nx : Nx a' H) (ha : D.Acc a' s.heap) :
    ∃ n', n = n' + 1 ∧ D.Live A ga g n' a' { s with toks := tk } := by
  obtain ⟨pins, G⟩ := T.inv
  obtain ⟨i, ht, on⟩ := T.on
  exact on { s with toks := tk } pins H a' rfl T.isg ⟨G.1, G.2.1.tok tk, G.2.2⟩ ht ha nx
/-- the consumer's own object at S is written anew -/
structure GxD.Own (D : GxD α) (ga S : Addr) : Prop where
  prot : D.prot = [ga, S]
  ne : S ≠ ga
  young : D.Z.s_0.heap.objs.size ≤ S
  loc : S ≠ D.Z.env.locals
  cel : ∀ x c, D.Z.env.cells.lookup x = some c → c ≠ S
  pn : D.Z.pn = []
theorem GxD.Told.write {D : GxD α} {A : Around} {ga S : Addr} {g n : Nat} {a a' : α} {x : V} {H : Hp} {Nx : α → Hp → Prop} {s : Shared} (T : D.Told A ga g n a x H Nx s) (hT : ∀ i h h', D.tn i h → (∀ b ∈ D.fp, ∀ o, h.get? b = some o → h'.get? b = some o) → D.tn i h')
    (ow : D.Own ga S) {h' : Heap} {o : Obj} (tk : Nat) (hk : ∀ b u, b ≠ S → s.heap.get? b = some u → h'.get? b = some u) (hS : h'.get? S = some o) (hcell : ∀ v, o.data ≠ .cell v) (nx : Nx a' H) (ha : D.Acc a' h') :
    ∃ n', n = n' + 1 ∧ D.Live A ga g n' a' { s with heap := h', toks := tk } := by
  obtain ⟨pins, hpr, I, hf⟩ := T.inv
  obtain ⟨i, ht, on⟩ := T.on
  obtain ⟨hgp, hSp⟩ : ga ∈ D.prot ∧ S ∈ D.prot := by rw [ow.prot]; simp
  have pinOf : ∀ b ∈ D.prot, ∃ p ∈ pins, p.1 = b := fun b hb => by
    rw [← hpr] at hb
    obtain ⟨p, hp, e⟩ := List.mem_map.mp hb
    exact ⟨p, hp, e⟩
  obtain ⟨pg, hpg, epg⟩ := pinOf ga hgp
  obtain ⟨pS, hpS, epS⟩ := pinOf S hSp
  have nfp : ∀ b ∈ D.fp, b ≠ S := fun b hb z => by
    have := (hf b hb).2.2.2.2.2 pS (List.mem_append_right _ hpS)
    rw [epS] at this
    exact this z.symm
  obtain ⟨gE, gN, gL, gF, gC⟩ := I.pin pg (List.mem_append_right _ hpg)
  obtain ⟨sE, sN, sL, sF, sC⟩ := I.pin pS (List.mem_append_right _ hpS)
  rw [epg] at gE gN gL gF
  rw [epS] at sE sN sL sF
  have I0 : L2.Inv D.Z [] D.σ0 H s := I.pins_of fun p hp => nomatch hp
  have nt : ∀ b u, H b = some u → b ≠ S := fun b u e z => by rw [z, sN] at e; cases e
  have J0 : L2.Inv D.Z [] D.σ0 H { s with heap := h', toks := tk } := by
    refine I0.step (h' := h') (g' := s.gens) (d' := s.drawn) (t' := tk) (ch := [S]) (fun b hb => ?_) (fun b u _ _ hc e _ => hk b u (fun z => hc (by rw [z]; exact List.mem_singleton.mpr rfl)) e)
      (fun b u _ _ hc e _ => ⟨u.slots, hk b u (fun z => hc (by rw [z]; exact List.mem_singleton.mpr rfl)) e⟩) (fun _ _ _ _ e => e) (fun b u hc e => ⟨u, hk b u (fun z => hc (by rw [z]; exact List.mem_singleton.mpr rfl)) e⟩)
      (fun _ _ e => e) (fun _ _ _ e => e) (fun b ps e => ⟨#[], by rw [e]; simp⟩) (fun m hm => ?_) (fun b u e => ?_) I0.bare
    · rw [List.mem_singleton.mp hb]
      refine ⟨.inr ow.young, ow.loc, ow.cel, fun p hp => ?_⟩
      rw [ow.pn] at hp
      exact nomatch hp
    · obtain ⟨ob, es, ep, ho, r⟩ := hm
      exact ⟨ob, es, ep, hk _ ob (Ne.symm ow.loc) ho, r⟩
    · refine (I0.hok b u e).stay (fun c v hc q => hk c v ?_ q) (fun _ q => q) fun _ _ q => q
      rcases hc with rfl | hc
      · exact nt _ _ e
      · exact nt _ _ hc
  have gE' : h'.get? ga = some pg.2 := hk _ _ (Ne.symm ow.ne) gE
  have J : L2.Inv D.Z [(ga, pg.2), (S, o)] D.σ0 H { s with heap := h', toks := tk } := J0.pins_of fun p hp => by
    rcases List.mem_cons.mp hp with rfl | hp
    · exact ⟨gE', gN, gL, gF, gC⟩
    · rw [List.mem_singleton.mp hp]
      exact ⟨hS, sN, sL, sF, hcell⟩
  have isg : h'.IsGen ga g := by
    obtain ⟨ob, nm, qn, ho, r⟩ := T.isg
    exact ⟨ob, nm, qn, hk _ _ (Ne.symm ow.ne) ho, r⟩
  refine on { s with heap := h', toks := tk } _ H a' rfl isg ⟨by rw [ow.prot]; rfl, J, fun b hb => ?_⟩ (hT _ _ _ ht fun b hb u e => hk b u (nfp b hb) e) ha nx
  obtain ⟨f0, f1, f2, f3, f4, f5⟩ := hf b hb
  refine ⟨f0, f1, f2, f3, f4, fun p hp => ?_⟩
  rw [ow.pn] at hp
  rcases List.mem_cons.mp (show p ∈ [(ga, pg.2), (S, o)] from hp) with rfl | hp
  · have := f5 pg (List.mem_append_right _ hpg)
    rw [epg] at this
    exact this
  · rw [List.mem_singleton.mp hp]
    exact (nfp b hb).symm
end
end FF
namespace FF
open PySem PySem.Spec PyProof.Rows L2
variable [LT]
/-! ### generator expressions: made -/
/-- the context of a generator expression's frame -/
abbrev gcx (X : Cx) (A : Around) (N : List Str) (s : Shared) (H : Hp) (cenv : Env) (fp : List Addr) : Cx :=
  { X with A := A, N := N, s_0 := s, H_0 := H, env := cenv, outer := X.stack, stack := cenv :: X.stack, ex := fp, fn := fun _ => false, calm := true, pn := [], xe := fun _ _ => False }
/-- its names: own ones, and those that the def (names XN) has as cells; src tells where these stand there -/
structure GxS (XN : List Str) (xsc scope : Scope) (N : List Str) (src : List (Option Nat)) : Prop where
  kind : scope.kind = .function
  co : scope.isCoroutine = false
  cell : ∀ y ∈ scope.names, y.2 ≠ .cell
  dot : scope.names.lookup (".0" : Str) = some NameKind.local
  free : ∀ y ∈ scope.names, y.2 = .free → xsc.names.lookup y.1 = some .cell ∨ xsc.names.lookup y.1 = some .free
  len : src.length = N.length
  nd : N.Nodup
  cap : ∀ (i j : Nat), src[i]? = some (some j) → ∃ x, N[i]? = some x ∧ XN[j]? = some x ∧ scope.names.lookup x = some .free
def gxσ (src : List (Option Nat)) (σ : L2.St) : L2.St := src.map fun o => match o with
  | some j => (σ[j]?).getD none
  | none => none
/-- a table of code objects of generator expressions stands at P -/
def TabG (H : Hp) (P : Addr) : Prop := ∃ ps : Array Value, H P = some (.tbl ps) ∧ TriplesOk ps.toList ∧ LT.lam P = false
/-- H' is H but for the table at P, which may have grown -/
def Tabd (P : Addr) (H H' : Hp) : Prop := TabG H' P ∧ ∀ b, b ≠ P → H' b = H b
section
variable {X : Cx} {pins : List (Addr × Obj)} {σ : L2.St} {H : Hp} {s : Shared}
theorem gx_inv {scope : Scope} {N : List Str} {src : List (Option Nat)} {fp : List Addr} {A : Around} {code : Value} {h' : Heap} {itv : Value} {gs : GenState} {tk : Nat} {og : Obj} (S : GxS X.N X.env.scope scope N src) (I : L2.Inv X pins σ H s) (hfp : ∀ b ∈ fp, FpOk X pins H b ∧ b < s.heap.objs.size)
    (hA : A.handled = none) (hF : A.frames = some (genEnv scope (cloFrom X.env.cells scope.names []) s.heap.objs.size code builtinsNs X.env :: X.stack)) (hgs : gs.bare = true)
    (hn : h'.Ns s.heap.objs.size (fun y => if y = ".0" then some itv else none)) (hs : Heap.SameBut s.heap.objs.size (s.heap.push { cls := .type "frame", data := .dict #[] }) h') :
    L2.Inv (gcx X A N s H (genEnv scope (cloFrom X.env.cells scope.names []) s.heap.objs.size code builtinsNs X.env) fp) [] (gxσ src σ) H { s with gens := s.gens.push gs, toks := tk, heap := h'.push og } := by
  have hfree : ∀ y ∈ scope.names, y.2 = .free → ∃ c, X.env.cells.lookup y.1 = some c := fun y hy e => by
    rcases S.free y hy e with k | k
    · exact I.ok.has _ (.inl k)
    · exact I.ok.has _ (.inr k)
  have kp : ∀ b o, s.heap.get? b = some o → (h'.push og).get? b = some o := fun b o e => Heap.get?_push_of_some _ (hs.extBut b o (Nat.ne_of_lt (Heap.lt_size e)) (Heap.get?_push_of_some _ e))
  have cm : ∀ {y c}, (cloFrom X.env.cells scope.names []).lookup y = some c → X.env.cells.lookup y = some c ∧ c < s.heap.objs.size := fun {y c} e => by
    rcases cloFrom_mem (PySem.mem_of_lookup e) with z | ⟨h1, h2⟩
    · cases z
    · obtain ⟨c', hc⟩ := hfree _ h1 rfl
      rw [hc] at h2
      have h2 : c = c' := h2
      rw [h2]
      obtain ⟨v, z⟩ := I.cell _ _ hc
      exact ⟨hc, z.lt⟩
  have has : ∀ {y}, scope.names.lookup y = some .free → ∃ c, (cloFrom X.env.cells scope.names []).lookup y = some c := fun {y} hl => by
    obtain ⟨c, e⟩ := mem_lookup (cloFrom_has (cells := X.env.cells) (acc := []) (PySem.mem_of_lookup hl))
    exact ⟨c, e⟩
  have okZ : (gcx X A N s H (genEnv scope (cloFrom X.env.cells scope.names []) s.heap.objs.size code builtinsNs X.env) fp).Ok := by
    refine ⟨I.ok.mod, S.kind, I.ok.glob, rfl, Nat.le_refl _, fun y z c e1 e2 => I.ok.inj y z c (cm e1).1 (cm e2).1, fun y hy => ?_, fun y c z e => (Bool.false_ne_true z).elim, fun _ => hA, hF, .inr ⟨rfl, rfl⟩, fun b hb => ⟨Nat.ne_of_lt (hfp b hb).2, fun y c e => (hfp b hb).1.2.2.2.2.1 y c (cm e).1⟩, I.bs, Nat.le_trans I.ok.bsz I.sz, fun b o e hb => ?_, fun b hb z => ?_, I.stack, I.stkFree⟩
    · rcases hy with hy | hy
      · exact absurd rfl (S.cell _ (PySem.mem_of_lookup hy))
      · exact has hy
    · rcases (hfp b hb).1.2.2.2.1 with z | z
      · exact I.ok.noex b o e z
      · exact absurd (Nat.lt_of_lt_of_le (Heap.lt_size e) (Nat.le_trans I.ok.bsz z)) (Nat.lt_irrefl _)
    · rcases List.mem_cons.mp (I.stkSub b z) with z | z
      · exact (hfp b hb).1.2.1 z
      · exact (hfp b hb).1.2.2.1 z
  refine ⟨okZ, rfl, I.bare.push hgs, Un.kept kp, ⟨_, hn.push og, fun i y v e1 e2 e3 => ?_⟩, fun y c e => ?_, I.hok.fresh (Nat.le_refl _), fun y c e => I.freeC y c (cm e).1, fun p hp => absurd (show p ∈ ([] : List (Addr × Obj)) ++ [] from hp) (by simp), I.hok.kept kp, ?_⟩
  · -- the captured names
    unfold gxσ at e2
    rw [List.getElem?_map] at e2
    cases hsrc : src[i]? with
    | none => rw [hsrc] at e2; cases e2
    | some o =>
      rw [hsrc] at e2
      cases o with
      | none => exact absurd (show (some (none : Option V)) = some (some v) from e2) (by simp)
      | some j =>
        have e2 : some ((σ[j]?).getD none) = some (some v) := e2
        have e4 : σ[j]? = some (some v) := by
          cases hj : σ[j]? with
          | none => rw [hj] at e2; exact absurd (Option.some.inj e2) (by simp)
          | some w => rw [hj] at e2; exact congrArg some (Option.some.inj e2)
        obtain ⟨x, hx1, hx2, hx3⟩ := S.cap i j hsrc
        have exy : x = y := Option.some.inj (hx1.symm.trans e1)
        subst exy
        obtain ⟨m, hm, hl⟩ := I.loc
        have hsc := S.free _ (PySem.mem_of_lookup hx3) rfl
        have hvis : Vis X.env.scope x := hsc.elim (fun k => .inr (.inl k)) (fun k => .inr (.inr k))
        obtain ⟨u, ru, lk⟩ := hl j x v hx2 e4 hvis
        refine ⟨u, ru, .inr ⟨.inr hx3, ?_⟩⟩
        obtain ⟨c, hc⟩ := has hx3
        refine ⟨c, hc, ?_⟩
        rcases lk with ⟨k, _⟩ | ⟨_, c', e', z⟩
        · have k : X.env.scope.names.lookup x = some .local := k
          rcases hsc with q | q <;> rw [show X.env.scope.names.lookup x = _ from q] at k <;> cases k
        · have := (cm hc).1
          rw [e'] at this
          cases this
          exact z.keeps kp
  · obtain ⟨v, z⟩ := I.cell y c (cm e).1
    exact ⟨v, z.keeps kp⟩
  · show (gxσ src σ).length = N.length
    unfold gxσ
    rw [List.length_map]
    exact S.len
end
end FF
namespace FF
open PySem PySem.Spec PyProof.Rows L2
variable [LT]
/-! ### generator expressions: the rules -/
section
variable {X : Cx} {pins : List (Addr × Obj)} {σ : L2.St} {H : Hp} {s : Shared}
abbrev gEnv (X : Cx) (scope : Scope) (C : Addr) (code : Value) : Env := genEnv scope (cloFrom X.env.cells scope.names []) C code builtinsNs X.env
/-- a generator expression has been made, at ga: all that is known of it -/
structure Ready (X : Cx) (pins : List (Addr × Obj)) (σ : L2.St) (elt tg iter : Expr) (ifs : List Expr) (scope : Scope) (gpos : Pos) (N : List Str) (src : List (Option Nat)) (J : It) (G : Hp) (it : Addr) (fp : List Addr) (tn : Nat → Heap → Prop) (code : Value) (s4 t : Shared) (ga : Addr) (g : Nat) : Prop where
  i4 : L2.Inv X pins σ G s4
  fpX : ∀ b ∈ fp, FpOk X pins G b ∧ b < s4.heap.objs.size
  turn : Turn X.prog X.w X.K tg J fp it tn
  tn0 : tn 0 t.heap
  isg : t.heap.IsGen ga g
  gen : t.gens[g]? = some (.fresh (.compStart (.GeneratorExp elt [⟨tg, iter, ifs, 0⟩] scope gpos) 0 (.ref it) .none (gEnv X scope s4.heap.objs.size code)))
  inv : ∀ A : Around, A.handled = none → A.frames = some (gEnv X scope s4.heap.objs.size code :: X.stack) → L2.Inv (gcx X A N s4 G (gEnv X scope s4.heap.objs.size code) fp) [] (gxσ src σ) G t
  new : s4.heap.objs.size < ga
  lt : ga < t.heap.objs.size
theorem gx_make {c P : Addr} {elt tg iter : Expr} {ifs : List Expr} {scope : Scope} {gpos : Pos} {N : List Str} {src : List (Option Nat)} {wi : TI} {k : Nat} {Rr : It → Hp → Prop} {Q' : Value → Shared → Prop} (hr : Room k X.A) (TB : LamX.TabB X.base X.mg c P) (hcode : X.env.code = .ref c)
    (S : GxS X.N X.env.scope scope N src) (hi : PI X tg iter wi) (hs : ∀ v, genFold iter X.env v = pure v) (I : L2.Inv X pins σ H s) (h : wi σ H fun J H1 => TabG H1 P ∧ ∀ H2, Tabd P H1 H2 → Rr J H2)
    (fin : ∀ J G it fp tn code s4 t ga g, Rr J G → Ready X pins σ elt tg iter ifs scope gpos N src J G it fp tn code s4 t ga g → Q' (.ref ga) t) :
    wpAny (model X.prog X.w) X.A (eval (.GeneratorExp elt [⟨tg, iter, ifs, 0⟩] scope gpos) X.env) Q' X.xe s := by
  have hfree : ∀ y ∈ scope.names, y.2 = .free → ∃ c, X.env.cells.lookup y.1 = some c := fun y hy e => by
    rcases S.free y hy e with k | k
    · exact I.ok.has _ (.inl k)
    · exact I.ok.has _ (.inr k)
  refine wpAny_GeneratorExp_make S.co (closure_ok hfree) S.cell S.dot S.kind hr.depth (thn (hi.run pins s σ H _ I h) fun xv s1 hx => thn hx fun itv s2 h2 => ?_) hs
  obtain ⟨it, fp, tn, J, H2, e, I2, T, st2, f2, ⟨ps, hP, htr, hlm⟩, q⟩ := h2
  subst e
  have hPs : s2.heap.get? P = some { cls := .none, data := .fields ps } := I2.hok P _ hP
  have cd : PySem.W.CodeHd s2.heap c P := TB.code.keeps I2.bk
  have sz : ∀ b ∈ fp, b < s2.heap.objs.size := fun b hb => by
    obtain ⟨o, e, _⟩ := T.obj _ _ st2 b hb
    exact Heap.lt_size e
  have nP : ∀ b ∈ fp, b ≠ P := fun b hb z => by
    have := (f2 b hb).1
    rw [z, hP] at this
    cases this
  refine ⟨I2.nolimit, ?_⟩
  -- behind the code object's making: the table is ps ++ more
  have cont : ∀ (code : Value) (h3 : Heap) (tk : Nat) (more : Array Value), Heap.ExtBut P s2.heap h3 → h3.get? P = some { cls := .none, data := .fields (ps ++ more) } → TriplesOk (ps ++ more).toList →
      wpAny (model X.prog X.w) X.A (builtinsFor X.env.globals X.env.builtins) (fun bi s4 =>
        ∀ h', h'.Ns s4.heap.objs.size (fun y => if y = ".0" then some (.ref it) else none) → Heap.SameBut s4.heap.objs.size (s4.heap.push { cls := .type "frame", data := .dict #[] }) h' →
          Q' (.ref h'.objs.size) { s4 with
            gens := s4.gens.push (.fresh (.compStart (.GeneratorExp elt [⟨tg, iter, ifs, 0⟩] scope gpos) 0 (.ref it) .none (genEnv scope (cloFrom X.env.cells scope.names []) s4.heap.objs.size code bi X.env))),
            toks := s4.toks + 1 + 1 + 1,
            heap := h'.push { cls := .type "generator", data := .fields #[.int s4.gens.size 0, .str "<genexpr>" (s4.toks + 1), .str (X.env.qual ++ "<genexpr>") (s4.toks + 1 + 1)] } }) X.xe { s2 with heap := h3, toks := tk } := by
    intro code h3 tk more hx hm htr3
    obtain ⟨bm, ob, e1, e2, e3, e4, e5, e6, e7, e8⟩ := TB.bm
    have J4 : L2.Inv X pins σ (upd H2 P (.tbl (ps ++ more))) { s2 with heap := h3, gens := s2.gens, drawn := s2.drawn, toks := tk } := GxR.inv_tab (more := more) I2 hP (fun b o hb e => hx b o hb e) hm I2.bare
    have f4 : ∀ b ∈ fp, FpOk X pins (upd H2 P (.tbl (ps ++ more))) b ∧ b < h3.objs.size := fun b hb => by
      obtain ⟨o, e, _⟩ := T.obj _ _ st2 b hb
      exact ⟨⟨by rw [upd_ne (nP b hb)]; exact (f2 b hb).1, (f2 b hb).2⟩, Heap.lt_size (hx b o (nP b hb) e)⟩
    have tn3 : tn 0 h3 := T.keep _ _ _ st2 fun b hb o e => hx b o (nP b hb) e
    refine wpAny_builtinsFor (m := X.mg) (by rw [I2.ok.glob]; exact (I2.mod.glob.keeps I2.bk).extBut hx TB.gP) e1 e2 (hx _ _ e4 (I2.bk _ _ e5)) e6 e7 e8 ?_
    intro h' hn' hs'
    have hsz : h'.objs.size = h3.objs.size + 1 := by rw [hs'.1, Heap.size_push]
    have kp : ∀ b o, h3.get? b = some o → h'.get? b = some o := fun b o e => hs'.extBut b o (Nat.ne_of_lt (Heap.lt_size e)) (Heap.get?_push_of_some _ e)
    refine fin J (upd H2 P (.tbl (ps ++ more))) it fp tn code { s2 with heap := h3, toks := tk } _ _ s2.gens.size (q _ ⟨⟨ps ++ more, upd_same, htr3, hlm⟩, fun b hb => upd_ne hb⟩) ⟨J4, f4, T, T.keep _ _ _ tn3 fun b hb o e => Heap.get?_push_of_some _ (kp b o e), ⟨_, _, _, Heap.get?_push_size _ rfl, rfl, rfl, rfl⟩, Array.getElem?_push_size .., fun A hA hF => ?_, by show h3.objs.size < h'.objs.size; omega, by show h'.objs.size < (h'.push _).objs.size; rw [Heap.size_push]; exact Nat.lt_succ_self _⟩
    exact gx_inv (s := { s2 with heap := h3, toks := tk }) S J4 f4 hA hF rfl hn' hs'
  cases hf : codeAmong gpos ps.toList with
  | none =>
    refine wpAny_genexprCodeX hcode (cd.code hPs htr) (cd.tab hPs) hf fun c' h' tk hx hge hlt hco' _ htab' _ => ?_
    obtain ⟨o1, vs, f1, tf, fl, tg', inF, tx, tt, op, _, _, _, _, _, _, _, _, _, htr', _⟩ := hco'
    exact cont _ h' tk _ hx htab'.2 htr'
  | some cv =>
    refine wpAny_genexprCode_hit hcode (cd.code hPs htr) hf ?_
    exact cont cv s2.heap s2.toks #[] (Heap.ExtBut.refl _ _) (by rw [Array.append_empty]; exact hPs) (by rw [Array.append_empty]; exact htr)
theorem over_frames {A : Around} {elt tg iter : Expr} {ifs : List Expr} {scope : Scope} {pos : Pos} {it : Value} {env : Env} {l : List Env} (h : A.frames = some l) :
    (A.over (.compLoop (.GeneratorExp elt [⟨tg, iter, ifs, 0⟩] scope pos) 0 it .none env) []).frames = some (env :: l) := by
  unfold Around.over
  simp only [h]
  rfl
theorem over_room {A : Around} {elt tg iter : Expr} {ifs : List Expr} {scope : Scope} {pos : Pos} {it : Value} {env : Env} {k : Nat} (r : Room (k + 1) A) :
    Room k (A.over (.compLoop (.GeneratorExp elt [⟨tg, iter, ifs, 0⟩] scope pos) 0 it .none env) []) :=
  ⟨r.hd, by have := r.dp; show A.depth + 0 + 1 + 3 * k + 5 < _; omega, by have := r.un; show A.units + 0 + 3 + 16 * k + 200 < _; omega⟩
/-- what the rules ask of a generator expression's parts -/
structure GxP (X : Cx) (k : Nat) (elt tg : Expr) (ifs : List Expr) (scope : Scope) (N : List Str) (g : TG) (tt : TT) (te : TE) : Prop where
  pg : ∀ (A : Around) (s : Shared) (G : Hp) (C : Addr) (code : Value) (fp : List Addr), PG (gcx X A N s G (gEnv X scope C code) fp) tg g
  pt : ∀ (A : Around) (s : Shared) (G : Hp) (C : Addr) (code : Value) (fp : List Addr), Room k A → PTs (gcx X A N s G (gEnv X scope C code) fp) ifs tt
  pe : ∀ (A : Around) (s : Shared) (G : Hp) (C : Addr) (code : Value) (fp : List Addr), Room k A → PE (gcx X A N s G (gEnv X scope C code) fp) elt te
/-- a turn's reading; end_: what is wanted behind the last, yl: at an item -/
def GxT {α : Type} (J : It) (g : TG) (tt : TT) (te : TE) (vs : List Nat) (σ0 : L2.St) (W : Nat → Nat → α → Hp → Prop) (yl : α → V → Hp → (α → Hp → Prop) → Prop) (dn : α → Hp → Prop) : Prop :=
  ∀ i m a H, W i m a H → (J.stop i H ∧ dn a H) ∨ (J.go i H ∧ ∃ Nx : α → Hp → Prop, (∀ a' H', Nx a' H' → ∃ m', m' < m ∧ W (i + 1) m' a' H') ∧
    ∀ x H1, J.yld i H x H1 → g x σ0 H1 fun σ2 H2 => wipe σ2 vs = σ0 ∧ tt σ2 H2 fun b H3 => if b = true then te σ2 H3 fun y H4 => yl a y H4 Nx else Nx a H3)
section
variable {α : Type} {elt tg iter : Expr} {ifs : List Expr} {scope : Scope} {gpos : Pos} {N : List Str} {src : List (Option Nat)} {J : It} {G : Hp} {it : Addr} {fp : List Addr} {tn : Nat → Heap → Prop} {code : Value} {s4 t : Shared} {ga : Addr} {g : Nat} {gg : TG} {tt : TT} {te : TE}
/-- the data of the generator with a consumer -/
abbrev Ready.dat (_ : Ready X pins σ elt tg iter ifs scope gpos N src J G it fp tn code s4 t ga g) (A : Around) (prot : List Addr) (Acc : α → Heap → Prop) (W : Nat → Nat → α → Hp → Prop) (Yl : α → V → Hp → (α → Hp → Prop) → Prop) (Dn : α → Hp → Prop) (vs : List Nat) : GxD α :=
  ⟨gcx X (A.in1.over (.compLoop (.GeneratorExp elt [⟨tg, iter, ifs, 0⟩] scope gpos) 0 (.ref it) .none (gEnv X scope s4.heap.objs.size code)) []) N s4 G (gEnv X scope s4.heap.objs.size code) fp, elt, tg, iter, ifs, scope, gpos, it, fp, tn, J, prot, Acc, W, Yl, Dn, wipe (gxσ src σ) vs, vs⟩
theorem Ready.live (R : Ready X pins σ elt tg iter ifs scope gpos N src J G it fp tn code s4 t ga g) {k : Nat} {A : Around} {C : List (Addr × Obj)} {Acc : α → Heap → Prop} {W : Nat → Nat → α → Hp → Prop} {Yl : α → V → Hp → (α → Hp → Prop) → Prop} {Dn : α → Hp → Prop} {vs : List Nat} {a : α} {m : Nat} {h' : Heap} {tk : Nat}
    (S : GxS X.N X.env.scope scope N src) (hp : GxP X k elt tg ifs scope N gg tt te) (room : Room (k + 1) A.in1) (hA : A.in1.frames = some X.stack) (ht : GxT J gg tt te vs (wipe (gxσ src σ) vs) W Yl Dn)
    (hk : ∀ b o, t.heap.get? b = some o → h'.get? b = some o) (hC : ∀ p ∈ C, h'.get? p.1 = some p.2 ∧ t.heap.objs.size ≤ p.1 ∧ ∀ v, p.2.data ≠ .cell v) (hacc : Acc a h') (hw : W 0 m a G) :
    (R.dat A (ga :: C.map (·.1)) Acc W Yl Dn vs).Ok gg tt te ∧ (R.dat A (ga :: C.map (·.1)) Acc W Yl Dn vs).Live A ga g (m + 1) a { t with heap := h', toks := tk } := by
  have hZ := R.inv (A.in1.over (.compLoop (.GeneratorExp elt [⟨tg, iter, ifs, 0⟩] scope gpos) 0 (.ref it) .none (gEnv X scope s4.heap.objs.size code)) []) room.hd (over_frames hA)
  have hZ2 : L2.Inv (gcx X (A.in1.over (.compLoop (.GeneratorExp elt [⟨tg, iter, ifs, 0⟩] scope gpos) 0 (.ref it) .none (gEnv X scope s4.heap.objs.size code)) []) N s4 G (gEnv X scope s4.heap.objs.size code) fp) [] (wipe (gxσ src σ) vs) G { t with heap := h', toks := tk } :=
    (hZ.weak (wipe_length _ _) fun j v e => (wipe_some e).1).kept (t' := tk) hk
  obtain ⟨og, nm, qn, hog, hcls, hdat, hsl⟩ := id R.isg
  have young : ∀ b, s4.heap.objs.size < b → G b = none ∧ b ≠ s4.heap.objs.size ∧ b ∉ frs X.stack := fun b hb => ⟨R.i4.hok.fresh (Nat.le_of_lt hb), Nat.ne_of_gt hb, fun z => by
    rcases List.mem_cons.mp (R.i4.stkSub b z) with z | z
    · rw [z] at hb
      exact absurd (Nat.lt_trans R.i4.lt hb) (Nat.lt_irrefl _)
    · exact R.i4.nofs (Nat.le_of_lt hb) z⟩
  have cY : ∀ p ∈ C, s4.heap.objs.size < p.1 := fun p hp' => Nat.lt_of_lt_of_le (Nat.lt_trans R.new R.lt) (hC p hp').2.1
  have ok : (R.dat A (ga :: C.map (·.1)) Acc W Yl Dn vs).Ok gg tt te := ⟨rfl, rfl, S.co, R.turn, hp.pg .., hp.pt _ _ _ _ _ _ (over_room room), hp.pe _ _ _ _ _ _ (over_room room), ht⟩
  have GI : (R.dat A (ga :: C.map (·.1)) Acc W Yl Dn vs).Inv ((ga, og) :: C) G { t with heap := h', toks := tk } := by
    refine ⟨rfl, hZ2.pins_of fun p hp' => ?_, fun b hb => ?_⟩
    · rcases List.mem_cons.mp hp' with rfl | hp'
      · obtain ⟨y1, y2, y3⟩ := young ga R.new
        exact ⟨hk _ _ hog, y1, y2, y3, fun v z => by rw [hdat] at z; cases z⟩
      · obtain ⟨y1, y2, y3⟩ := young p.1 (cY p hp')
        exact ⟨(hC p hp').1, y1, y2, y3, (hC p hp').2.2⟩
    · refine ⟨(R.fpX b hb).1.1, Nat.ne_of_lt (R.fpX b hb).2, hZ.ok.exfs b hb, .inl hb, (hZ.ok.exf b hb).2, fun p hp' z => ?_⟩
      have hb2 := (R.fpX b hb).2
      rcases List.mem_cons.mp (show p ∈ (ga, og) :: C from hp') with e | hp'
      · rw [← z, e] at hb2
        exact absurd (Nat.lt_trans R.new hb2) (Nat.lt_irrefl _)
      · rw [← z] at hb2
        exact absurd (Nat.lt_trans (cY p hp') hb2) (Nat.lt_irrefl _)
  refine ⟨ok, List.mem_cons_self, ⟨og, nm, qn, hk _ _ hog, hcls, hdat, hsl⟩, hacc, ⟨_, _, GI⟩, _, R.gen, rfl, ?_⟩
  exact gx_begin ok (A := A.in1) rfl (Nat.lt_succ_self m) (GI.setGen rfl) (R.turn.keep _ _ _ R.tn0 fun b _ o e => hk b o e) hacc hw
/-- back in the def -/
theorem Ready.back (R : Ready X pins σ elt tg iter ifs scope gpos N src J G it fp tn code s4 t ga g) {A : Around} {prot : List Addr} {Acc : α → Heap → Prop} {W : Nat → Nat → α → Hp → Prop} {Yl : α → V → Hp → (α → Hp → Prop) → Prop} {Dn : α → Hp → Prop} {vs : List Nat} {pn : List (Addr × Obj)} {H' : Hp} {s' : Shared}
    (GI : (R.dat A prot Acc W Yl Dn vs).Inv pn H' s') : L2.Inv X pins σ H' s' :=
  R.i4.call' (ch := fp) GI.2.1.os GI.2.1.base GI.2.1.hok GI.2.1.bare fun b hb => ⟨(R.fpX b hb).1.2.2.2.1, (R.fpX b hb).1.2.1, (R.fpX b hb).1.2.2.2.2.1, (R.fpX b hb).1.2.2.2.2.2⟩
end
section
variable {c P : Addr} {elt tg iter : Expr} {ifs : List Expr} {scope : Scope} {gpos p pos : Pos} {N : List Str} {src : List (Option Nat)} {wi : TI} {g : TG} {tt : TT} {te : TE} {k : Nat} {vs : List Nat}
end
end
/-- by a look at the names -/
def gxsB (XN : List Str) (xsc scope : Scope) (N : List Str) (src : List (Option Nat)) : Bool :=
  decide (scope.kind = .function) && (!scope.isCoroutine && ((scope.names.all fun y => decide (y.2 ≠ .cell)) && (decide (scope.names.lookup (".0" : Str) = some NameKind.local) &&
  ((scope.names.all fun y => decide (y.2 ≠ .free) || decide (xsc.names.lookup y.1 = some .cell) || decide (xsc.names.lookup y.1 = some .free)) && (decide (src.length = N.length) && (decide N.Nodup &&
  (List.range src.length).all fun i => match src[i]? with
    | some (some j) => (match N[i]? with
      | some x => decide (XN[j]? = some x) && decide (scope.names.lookup x = some .free)
      | none => false)
    | _ => true))))))
theorem gxs_of {XN : List Str} {xsc scope : Scope} {N : List Str} {src : List (Option Nat)} (h : gxsB XN xsc scope N src = true) : GxS XN xsc scope N src := by
  unfold gxsB at h
  simp only [Bool.and_eq_true, decide_eq_true_eq, Bool.not_eq_true', List.all_eq_true, Bool.or_eq_true] at h
  obtain ⟨h1, h2, h3, h4, h5, h6, h7, h8⟩ := h
  refine ⟨h1, h2, h3, h4, fun y hy e => ?_, h6, h7, fun i j e => ?_⟩
  · rcases h5 y hy with (z | z) | z
    · exact absurd e z
    · exact .inl z
    · exact .inr z
  · have hi : i < src.length := (List.getElem?_eq_some_iff.mp e).1
    have q := h8 i (List.mem_range.mpr hi)
    rw [e] at q
    cases hn : N[i]? with
    | none => rw [hn] at q; cases q
    | some x =>
      rw [hn] at q
      obtain ⟨q1, q2⟩ := Bool.and_eq_true_iff.mp q
      exact ⟨x, rfl, of_decide_eq_true q1, of_decide_eq_true q2⟩
end FF
namespace FF
open PySem PySem.Spec PyProof.Rows L2
variable [LT]
/-! ### tuple(elt for ..) -/
section
variable {α : Type}
theorem gx_nextA {D : GxD α} {A : Around} {ga : Addr} {g n : Nat} {a : α} {s : Shared} {Q : Option Value → Shared → Prop} {E : Value → Shared → Prop} (calm : A.handled = none) (room : A.depth < recursionLimit)
    (hfun : ∀ a a' h, D.Acc a h → D.Acc a' h → a = a') (hpr : ∀ a h h', (∀ b ∈ D.prot, h'.get? b = h.get? b) → D.Acc a h → D.Acc a h') (L : D.Live A ga g n a s)
    (some_ : ∀ v x H Nx t, RelV x v → D.Told A ga g n a x H Nx t → Q (some v) t)
    (none_ : ∀ pins H t, D.Inv pins H t → D.Acc a t.heap → D.Dn a H → Q none t) :
    wpAny (model D.Z.prog D.Z.w) A (pyNext (.ref ga)) Q E s := by
  obtain ⟨pins0, H0, G0⟩ := L.inv
  obtain ⟨gs, hgs, hgo⟩ := L.go
  refine wpAny_pyNext_genexpQ (P := D.P) (Y := D.Y) (n := n) calm G0.2.1.nolimit room L.isg hgs hgo (fun v t gs' hb hv => ?_) (fun t hp h' hk => ?_)
  · obtain ⟨i, a1, pins, H, x, Nx, rx, hz, hacc, h0, G, htn, hyl, kap⟩ := hv
    have ea : a1 = a := hfun _ _ _ hacc L.acc
    subst ea
    have same : ∀ b ∈ D.prot, t.heap.get? b = s.heap.get? b := fun b hb' => pins_same G h0 hb'
    have isg : t.heap.IsGen ga g := by
      obtain ⟨o, nm, qn, ho, r⟩ := L.isg
      exact ⟨o, nm, qn, (same ga L.mem).trans ho, r⟩
    refine some_ v x H Nx _ rx ⟨⟨pins, G.setGen hb⟩, hpr _ _ _ same hacc, hyl, isg, i, htn, fun s' pins' H' a' hge isg' G' htn' hacc' nx => ?_⟩
    have kp := kap (s'.setGen g .running) pins' H' a' (G'.setGen rfl) htn' hacc' nx
    cases n with
    | zero => exact kp.elim
    | succ n' =>
    refine ⟨n', rfl, L.mem, isg', hacc', ⟨_, _, G'⟩, gs', ?_, kp⟩
    rw [hge]
    · have hlt : g < t.gens.size := by
        have h1 : g < s.gens.size := (Array.getElem?_eq_some_iff.mp hgs).1
        have h2 : (s.setGen g .running).gens.size = s.gens.size := by simp [Shared.setGen]
        omega
      simp [Shared.setGen, hlt]
  · obtain ⟨a1, pins, H, hacc, h0, G, hdn⟩ := hp
    have ea : a1 = a := hfun _ _ _ hacc L.acc
    subst ea
    refine none_ pins H _ ⟨G.1, Inv.gens (G := (t.setGen g .finished).gens) (G.2.1.kept (t' := t.toks) hk) (bare_set G.2.1.bare rfl), G.2.2⟩ (hpr _ _ _ (fun b hb => ?_) hacc) hdn
    have hb2 := hb
    rw [← G.1] at hb2
    obtain ⟨p, hp, e⟩ := List.mem_map.mp hb2
    have h1 := h0 p hp
    have h2 := (G.2.1.pin p (List.mem_append_right _ hp)).1
    rw [← e]
    exact (hk _ _ h2).trans h1.symm
def accLst (S : Addr) : List V → Heap → Prop := fun xs h => ∃ (its : List Value) (c : Nat), Vals xs its ∧ h.get? S = some { cls := .type "list", dict := none, data := .seq its.toArray c, slots := #[] }
def ylLst : List V → V → Hp → (List V → Hp → Prop) → Prop := fun xs x H Nx => xs.length < sizeLine ∧ Nx (xs ++ [x]) H
theorem lst_loop {D : GxD (List V)} {A : Around} {ga S : Addr} {g : Nat} {res : Value} {R : Result → Shared → Prop} (calm : A.handled = none) (room : A.depth < recursionLimit) (hT : ∀ i h h', D.tn i h → (∀ b ∈ D.fp, ∀ o, h.get? b = some o → h'.get? b = some o) → D.tn i h')
    (ow : D.Own ga S) (hyl : D.Yl = ylLst) (hac : D.Acc = accLst S) (fin : ∀ pins H t xs, D.Inv pins H t → accLst S xs t.heap → D.Dn xs H → R (.ok (.ret res)) t) :
    ∀ n s xs, D.Live A.in1 ga g n xs s → codeAny (model D.Z.prog D.Z.w) A (.builtin "list.extend.loop" ⟨[.ref S, .ref ga, res], []⟩) R s := by
  have hS : S ∈ D.prot := by rw [ow.prot]; simp
  have hfun : ∀ a a' h, D.Acc a h → D.Acc a' h → a = a' := by
    intro a a' h h1 h2
    rw [hac] at h1 h2
    obtain ⟨t, c, v, e⟩ := h1
    obtain ⟨t', c', v', e'⟩ := h2
    rw [e] at e'
    injection e' with e1
    injection e1 with _ _ e2
    injection e2 with e3
    have e4 : t = t' := by simpa using e3
    subst e4
    exact v.inj v'
  have hpr : ∀ a h h', (∀ b ∈ D.prot, h'.get? b = h.get? b) → D.Acc a h → D.Acc a h' := by
    intro a h h' e h1
    rw [hac] at h1 ⊢
    obtain ⟨t, c, v, q⟩ := h1
    exact ⟨t, c, v, (e S hS).trans q⟩
  intro n
  induction n using Nat.strongRecOn with
  | _ n ih =>
    intro s xs L
    refine codeAny_builtin F.entry_extend_loop ?_
    rw [Around.under_plainId F.plain_extend_loop _]
    show wpAny _ A.in1 (pyNext (.ref ga) >>= _) _ _ s
    refine wpAny_bind (gx_nextA (A := A.in1) calm room hfun hpr L (fun v x H Nx t rx T => ?_) (fun pins H t G acc dn => ?_))
    · have yl := T.yl
      rw [hyl] at yl
      obtain ⟨hl, q⟩ := yl
      have a1 := T.acc
      rw [hac] at a1
      obtain ⟨its, c1, v1, e1⟩ := a1
      have hsz : its.toArray.size = xs.length := by rw [List.size_toArray]; exact v1.length.symm
      show wpAny _ A.in1 (updateSeq S (·.push v) >>= _) _ _ _
      refine wpAny_bind (wpAny_updateSeq e1 rfl ?_ (by rw [hsz]; omega) (by rw [Array.size_push, hsz]; omega))
      have e2 := Heap.get?_update_self (Obj.mapSeq (·.push v)) e1 rfl
      have acc2 : accLst S (xs ++ [x]) (t.heap.update S (Obj.mapSeq (·.push v))) := ⟨its ++ [v], _, v1.append (.cons rx .nil), by
        rw [e2]
        simp [Obj.mapSeq]
        rfl⟩
      obtain ⟨n', rfl, L'⟩ := T.write (a' := xs ++ [x]) hT ow t.toks (fun b u hb e => (Heap.get?_update_other _ _ (Ne.symm hb)).trans e) e2 (fun v z => by cases z) q (by rw [hac]; exact acc2)
      exact wpAny_pure ⟨plainId_quiet F.plain_extend_loop _, ih n' (Nat.lt_succ_self _) _ _ L'⟩
    · rw [hac] at acc
      exact wpAny_pure (fin pins H t xs G acc dn)
end
section
variable {X : Cx} {pins : List (Addr × Obj)} {σ : L2.St} {elt tg iter : Expr} {ifs : List Expr} {scope : Scope} {gpos : Pos} {N : List Str} {src : List (Option Nat)} {J : It} {G : Hp} {it : Addr} {fp : List Addr} {tn : Nat → Heap → Prop} {code : Value} {s4 t : Shared} {ga : Addr} {g : Nat} {gg : TG} {tt : TT} {te : TE}
theorem collect_gx (R : Ready X pins σ elt tg iter ifs scope gpos N src J G it fp tn code s4 t ga g) {k : Nat} {A : Around} {W : Nat → Nat → List V → Hp → Prop} {Dn : List V → Hp → Prop} {vs : List Nat} {m : Nat} {Q : List Value → Shared → Prop} {E : Value → Shared → Prop}
    (S : GxS X.N X.env.scope scope N src) (hp : GxP X k elt tg ifs scope N gg tt te) (calm : A.handled = none) (dep : A.depth < recursionLimit) (room : Room (k + 1) A.in1.in1) (hA : A.in1.in1.frames = some X.stack) (hd : X.A.handled = none) (fr : X.A.frames = some X.stack)
    (ht : GxT J gg tt te vs (wipe (gxσ src σ) vs) W ylLst Dn) (w0 : W 0 m [] G)
    (fin : ∀ H' t' its xs, L2.Inv X pins σ H' t' → Vals xs its → Dn xs H' → Q its t') : wpAny (model X.prog X.w) A (collect (.ref ga)) Q E t := by
  have hgen : t.TypeIs (.ref ga) "generator" := by
    obtain ⟨o, nm, qn, ho, hc, _⟩ := R.isg
    exact ⟨o, ho, hc⟩
  have hlt : ga < t.heap.objs.size := R.lt
  have hSI : t.heap.objs.size ≠ ga := Nat.ne_of_gt hlt
  unfold collect
  refine wpAny_bind (wpAny_runValue (codeAny_builtin F.entry_proto_collect ?_))
  rw [Around.under_plainId F.plain_proto_collect _]
  show wpAny _ A.in1 (newList [] >>= fun l => again (.builtin "list.__iadd__" ⟨[l, .ref ga], []⟩)) _ _ t
  refine wpAny_bind (wpAny_newObj_type ?_)
  refine wpAny_pure ⟨plainId_quiet F.plain_list_iadd _, codeAny_builtin F.entry_list_iadd ?_⟩
  rw [Around.under_plainId F.plain_list_iadd _]
  have hgen1 : ({ t with heap := t.heap.push { cls := .type "list", data := .seq ([] : List Value).toArray } } : Shared).TypeIs (.ref ga) "generator" := by
    obtain ⟨o, ho, hc⟩ := hgen
    exact ⟨o, Heap.get?_push_of_some _ ho, hc⟩
  have isg1 : (t.heap.push { cls := .type "list", data := .seq ([] : List Value).toArray }).IsGen ga g := by
    obtain ⟨o, nm, qn, ho, r⟩ := R.isg
    exact ⟨o, nm, qn, Heap.get?_push_of_some _ ho, r⟩
  show wpAny _ A.in1 (Builtin.List.listExtendWith (.ref t.heap.objs.size) (.ref ga) (.ref t.heap.objs.size)) _ _ _
  unfold Builtin.List.listExtendWith
  refine wpAny_bind (wpAny_typeOf hgen1 ?_)
  have h1 : Builtin.List.listSameRef (.ref t.heap.objs.size) (.ref ga) = false := by simp [Builtin.List.listSameRef, hSI]
  have h2 : (Value.type "generator" == Value.type "list") = false := by decide
  have h3 : (Value.type "generator" == Value.type "tuple") = false := by decide
  simp only [h1, h2, h3, Bool.or_false, Bool.false_eq_true, if_false]
  refine wpAny_bind (wpAny_pyIter_gen isg1 ?_)
  refine wpAny_bind (wpAny_holding ?_)
  unfold Builtin.List.listLengthHint
  refine wpAny_bind (wpAny_specialOf hgen1 F.gen_no_len ?_)
  show wpAny _ A.in1 (specialOf (Value.ref ga) (Str.ofString "__length_hint__") >>= _) _ _ _
  refine wpAny_bind (wpAny_specialOf hgen1 F.gen_no_hint ?_)
  refine wpAny_pure ?_
  show wpAny _ A.in1 (rule "list.extend.makes-room" >>= fun _ => Builtin.List.listTouch (.ref t.heap.objs.size) >>= fun _ =>
    again (.builtin "list.extend.loop" ⟨[.ref t.heap.objs.size, .ref ga, .ref t.heap.objs.size], []⟩)) _ _ _
  refine wpAny_bind (wpAny_rule ?_)
  have hS₁ : (t.heap.push { cls := .type "list", data := .seq ([] : List Value).toArray }).get? t.heap.objs.size = some { cls := .type "list", data := .seq ([] : List Value).toArray } := Heap.get?_push_size _ rfl
  refine wpAny_bind ?_
  show wpAny _ A.in1 (updateSeq t.heap.objs.size (·.push .none) >>= fun _ => updateSeq t.heap.objs.size (·.pop)) _ _ _
  refine wpAny_bind (wpAny_updateSeq hS₁ rfl ?_)
  have hS₂ := Heap.get?_update_self (Obj.mapSeq (·.push Value.none)) hS₁ rfl
  refine wpAny_updateSeq hS₂ rfl ?_
  have hS₃ := Heap.get?_update_self (Obj.mapSeq (·.pop)) hS₂ rfl
  have oth : ∀ b o, t.heap.get? b = some o →
      (((t.heap.push { cls := .type "list", data := .seq ([] : List Value).toArray }).update t.heap.objs.size (Obj.mapSeq (·.push Value.none))).update t.heap.objs.size (Obj.mapSeq (·.pop))).get? b = some o :=
    fun b o e => (Heap.get?_update_other _ _ (Nat.ne_of_gt (Heap.lt_size e))).trans ((Heap.get?_update_other _ _ (Nat.ne_of_gt (Heap.lt_size e))).trans (Heap.get?_push_of_some _ e))
  obtain ⟨ok, L⟩ := R.live (A := A.in1) (C := [(t.heap.objs.size, _)]) (Acc := accLst t.heap.objs.size) (a := []) (m := m) (h' := _) (tk := t.toks) S hp room hA ht oth
    (fun q hq => by rw [List.mem_singleton.mp hq]; exact ⟨hS₃, Nat.le_refl _, fun v z => by cases z⟩) ⟨[], _, .nil, hS₃⟩ w0
  have big : s4.heap.objs.size < t.heap.objs.size := Nat.lt_trans R.new R.lt
  refine wpAny_pure ⟨plainId_quiet F.plain_extend_loop _, lst_loop (A := A) calm dep ok.turn.keep ⟨rfl, Nat.ne_of_gt R.lt, Nat.le_of_lt big, Nat.ne_of_gt big, fun x c0 e z => ?_, rfl⟩ rfl rfl (fun pn H' t' xs GI acc dn => ?_) (m + 1) _ [] L⟩
  · have hZ := R.inv (A.in1.in1.over (.compLoop (.GeneratorExp elt [⟨tg, iter, ifs, 0⟩] scope gpos) 0 (.ref it) .none (gEnv X scope s4.heap.objs.size code)) []) room.hd (over_frames hA)
    obtain ⟨v, zc⟩ := hZ.cell x c0 e
    exact absurd zc.lt (by rw [z]; exact Nat.lt_irrefl _)
  · obtain ⟨its, c, vv, hS'⟩ := acc
    show wpAny _ A (load t.heap.objs.size >>= _) _ _ t'
    refine wpAny_bind (wpAny_load hS' ?_)
    refine wpAny_pure ?_
    have := fin H' t' its xs (R.back GI) vv dn
    simpa using this
end
def tTupG (P : Addr) (wi : TI) (g : TG) (tt : TT) (te : TE) (src : List (Option Nat)) (vs : List Nat) : TE := fun σ H Q => wi σ H fun J H1 => TabG H1 P ∧ ∀ H2, Tabd P H1 H2 →
  ∃ W : Nat → Nat → List V → Hp → Prop, (∃ m, W 0 m [] H2) ∧ GxT (α := List V) J g tt te vs (wipe (gxσ src σ) vs) W ylLst (fun xs H' => xs.length ≤ sizeLine ∧ ∀ q, H' q = none → Q (.ref q) (upd H' q (.tup xs)))
section
variable {X : Cx} {c P : Addr} {elt tg iter : Expr} {ifs : List Expr} {scope : Scope} {gpos p pos : Pos} {N : List Str} {src : List (Option Nat)} {wi : TI} {g : TG} {tt : TT} {te : TE} {k : Nat} {vs : List Nat}
theorem pe_tuple (hr : Room (k + 6) X.A) (hg : Gl X "tuple") (hm : X.mg "tuple" = none) (TB : LamX.TabB X.base X.mg c P) (hcode : X.env.code = .ref c) (S : GxS X.N X.env.scope scope N src) (hi : PI X tg iter wi) (hp : GxP X k elt tg ifs scope N g tt te)
    (hs : ∀ v, genFold iter X.env v = pure v := by intro _; rfl)
    (he : starEach [.GeneratorExp elt [⟨tg, iter, ifs, 0⟩] scope gpos] X.env = (false, eval (.GeneratorExp elt [⟨tg, iter, ifs, 0⟩] scope gpos) X.env) :: starEach [] X.env := by rfl) :
    PE X (.Call (.Name "tuple" p) [.GeneratorExp elt [⟨tg, iter, ifs, 0⟩] scope gpos] [] pos) (tTupG P wi g tt te src vs) := by
  refine ⟨fun pins s σ H Q I h => ?_⟩
  refine wpAny_Call_Name_kw (ld_blt I hg hm boot_tuple (PyProof.Rows.callWith_type1 ?_ he (by rfl)))
  rw [he]
  show wpAny _ _ (spliced ((false, eval (.GeneratorExp elt [⟨tg, iter, ifs, 0⟩] scope gpos) X.env) :: backTo pos (starEach [] X.env))) _ _ s
  refine Calls.spliced_cons (gx_make hr TB hcode S hi hs I h fun J G it fp tn code s4 t ga gn q R => Calls.spliced_nil ?_)
  obtain ⟨W, ⟨m, w0⟩, ht⟩ := q
  have r1 : Room (k + 5) X.A.in1 := hr.in1
  have r2 : Room (k + 4) X.A.in1.in1 := r1.in1
  have r3 : Room (k + 3) X.A.in1.in1.in1 := r2.in1
  have r4 : Room (k + 2) X.A.in1.in1.in1.in1 := r3.in1
  have hgen : t.TypeIs (.ref ga) "generator" := by
    obtain ⟨o, nm, qn, ho, hc, _⟩ := R.isg
    exact ⟨o, ho, hc⟩
  refine callType_codes (Q₁ := fun obj s₁ => s₁.TypeIs obj "tuple" ∧ EP X pins σ Q obj s₁) F.called_tuple (F.typeCall_tuple_1 _) F.entry_object_init ?_ fun obj s₁ h₁ => ⟨h₁.1, F.args_object_init_2 obj _, object_init_meets F.called_tuple.init.lookup F.called_tuple.made (by decide) X.prog X.w X.A.in1 _ s₁ ⟨h₁.1, rfl, h₁.2⟩⟩
  refine codeAny_of_tree ?_
  show wpAny _ X.A.in1.in1 (do checkBuiltinCall "tuple.__new__" ⟨[.type "tuple", .ref ga], []⟩; again (.builtin "tuple.__new__" ⟨[.type "tuple", .ref ga], []⟩)) _ _ t
  refine wpAny_bind (wpAny_of_eq (F.newCall_tuple_1 _) (wpAny_pure ⟨plainId_quiet F.plain_tuple_new _, codeAny_builtin F.entry_tuple_new ?_⟩))
  rw [Around.under_plainId F.plain_tuple_new _]
  have hsub := sub_tuple_self
  have hinit := init_tuple_lookup
  have hmh := madeHere_tuple
  wp_walk using wpAny_typeOf hgen, collect_gx (A := X.A.in1.in1) R (k := k) (m := m) S hp r2.hd r2.depth (r4.mono (by omega)) I.ok.frames hr.hd I.ok.frames ht w0
  intro H' t' its xs I' vv dn
  obtain ⟨hz, q⟩ := dn
  show wpAny _ _ (Builtin.Tuple.tupleExact its.toArray >>= fun v => ret v) _ _ _
  unfold Builtin.Tuple.tupleExact
  refine wpAny_bind (wpAny_newObj_type ?_ (by show its.toArray.size ≤ sizeLine; rw [List.size_toArray, ← vv.length]; exact hz))
  refine wpAny_pure ?_
  refine ⟨⟨_, Heap.get?_push_size _ rfl, rfl⟩, .ref t'.heap.objs.size, _, I'.laid (t' := t'.toks) (o := .tup xs) (fun b ob q => Heap.get?_push_of_some _ q) (Nat.le_refl _) ?_, rfl, q _ (I'.hok.fresh (Nat.le_refl _))⟩
  exact ⟨hz, its, vv, IsTup.new _ _⟩
end
end FF
namespace FF
open PySem PySem.Spec PyProof.Rows L2
variable [LT]
/-! ### defs of the text -/
structure DefAt (K : PySem.W.Frag) (mg : Str → Option Value) (x : Str) (st : Stmt) (ps : List Str) (f : Addr) (fd : FuncData) : Prop where
  F : FunD K x x (defArgs st) (defBody st) (defScope st) [] [] f fd
  g : mg x = some (.ref f)
  b : Binds K fd ps []
theorem DefAt.ok {P : Program} {w : World} {K : PySem.W.Frag} {mg : Str → Option Value} {base : Heap} {x : Str} {st : Stmt} {f : Addr} {fd : FuncData} {N ps : List Str} {k : Nat} {sp : Sp} (D : DefAt K mg x st ps f fd) (S : FnScope N ps (defScope st)) (len : ∀ vs H Q E, sp vs H Q E → vs.length = ps.length)
    (hbody : ∀ (A : Around) (outer : List Env) (s : Shared) (H : Hp) (vs : List V) (Q : VK) (E : XK), Room k (A.deeper (envOfC x (defScope st) s.heap.objs.size f fd.code)) → sp vs H Q E →
      ∃ t, PSs (cxOf CX0 P w K mg base N x (defScope st) f fd.code A outer s H E).nox (defBody st) t ∧ t { nx := fun _ H' => Q .non H', rt := Q } (start N vs) H) : FnOk P w K mg base CX0 (k + 1) f fd ps sp := by
  obtain ⟨oc, od, dV, kV, doc, pm, an, cdv, ct, osl, rfl, lk, hcd, _, _⟩ := D.F.ex
  refine fn_of lk hcd S len fun A outer s H vs Q E hr hsp => ?_
  obtain ⟨t, h, q⟩ := hbody A outer s H vs Q E hr hsp
  exact ⟨t, h.nox, q⟩
/-! ### heaps: what stays -/
/-- but for the addresses in S all that is tracked stays; tables stay tables -/
structure Kx (S : Addr → Prop) (H H' : Hp) : Prop where
  at_ : ∀ b o, H b = some o → (∀ ps, o ≠ .tbl ps) → ¬ S b → H' b = some o
  tab : ∀ b, TabG H b → TabG H' b
  dom : ∀ b, H' b = none → H b = none
  lam : ∀ b ps, LT.lam b = true → ¬ S b → H b = some (.tbl ps) → H' b = some (.tbl ps)
theorem upd_none {H : Hp} {p b : Addr} {o : HO} (h : upd H p o b = none) : b ≠ p ∧ H b = none := by
  by_cases e : b = p
  · rw [e, upd_same] at h
    cases h
  · rw [upd_ne e] at h
    exact ⟨e, h⟩
abbrev Ke := Kx fun _ => False
theorem Kx.refl {S : Addr → Prop} {H : Hp} : Kx S H H := ⟨fun _ _ h _ _ => h, fun _ h => h, fun _ h => h, fun _ _ _ _ h => h⟩
theorem Kx.trans {S : Addr → Prop} {H H1 H2 : Hp} (a : Kx S H H1) (b : Kx S H1 H2) : Kx S H H2 := ⟨fun c o h n q => b.at_ c o (a.at_ c o h n q) n q, fun c h => b.tab c (a.tab c h), fun c h => a.dom c (b.dom c h), fun c ps l n h => b.lam c ps l n (a.lam c ps l n h)⟩
theorem Kx.mono {S S' : Addr → Prop} {H H1 : Hp} (a : Kx S H H1) (h : ∀ b, S b → S' b) : Kx S' H H1 := ⟨fun c o e n q => a.at_ c o e n fun z => q (h c z), a.tab, a.dom, fun c ps l n e => a.lam c ps l (fun z => n (h c z)) e⟩
theorem Ke.to {S : Addr → Prop} {H H1 : Hp} (a : Ke H H1) : Kx S H H1 := a.mono fun _ z => z.elim
theorem Ke.new {S : Addr → Prop} {H : Hp} {p : Addr} {o : HO} (h : H p = none) : Kx S H (upd H p o) :=
  ⟨fun b u e _ _ => by rw [upd_ne (ne_of_none e h)]; exact e, fun b ⟨ps, e, t⟩ => ⟨ps, by rw [upd_ne (ne_of_none e h)]; exact e, t⟩, fun _ e => (upd_none e).2, fun b ps _ _ e => by rw [upd_ne (ne_of_none e h)]; exact e⟩
theorem Kx.over {S : Addr → Prop} {H H1 : Hp} {p : Addr} {o : HO} (k : Kx S H H1) (h : H p = none) : Kx S H (upd H1 p o) :=
  ⟨fun b u e n q => by rw [upd_ne (ne_of_none e h)]; exact k.at_ b u e n q, fun b t => by
    obtain ⟨ps, e, z⟩ := k.tab b t
    obtain ⟨ps0, e0, _⟩ := t
    exact ⟨ps, by rw [upd_ne (ne_of_none e0 h)]; exact e, z⟩, fun _ e => k.dom _ (upd_none e).2, fun b ps l n e => by rw [upd_ne (ne_of_none e h)]; exact k.lam b ps l n e⟩
theorem Ke.put {H : Hp} {p : Addr} {o u : HO} (h : H p = some u) (hu : ∀ ps, u ≠ .tbl ps) : Kx (fun b => b = p) H (upd H p o) :=
  ⟨fun b v e _ q => by rw [upd_ne q]; exact e, fun b ⟨ps, e, t⟩ => ⟨ps, by rw [upd_ne (ne_of e h fun z => hu ps z.symm)]; exact e, t⟩, fun _ e => (upd_none e).2, fun b ps _ q e => by rw [upd_ne q]; exact e⟩
theorem Ke.tabd {P : Addr} {H H1 : Hp} (h : TabG H P) (t : Tabd P H H1) : Ke H H1 := by
  obtain ⟨ps, hp, _, hl⟩ := h
  refine ⟨fun b o e n _ => (t.2 b fun z => ?_).trans e, fun b ⟨qs, e, q⟩ => ?_, fun b e => ?_, fun b qs l _ e => (t.2 b fun z => ?_).trans e⟩
  · rw [z, hp] at e
    exact n ps (Option.some.inj e).symm
  · by_cases hb : b = P
    · rw [hb]
      exact t.1
    · exact ⟨qs, (t.2 b hb).trans e, q⟩
  · by_cases hb : b = P
    · obtain ⟨qs, z, _⟩ := t.1
      rw [hb, z] at e
      cases e
    · exact (t.2 b hb).symm.trans e
  · rw [z, hl] at l
    cases l
theorem Ke.lst {H H' : Hp} (a : Ke H H') {p : Addr} {xs : List V} (h : H p = some (.lst xs)) : H' p = some (.lst xs) := a.at_ p _ h (fun _ z => nomatch z) fun z => z
theorem Kx.tup {S : Addr → Prop} {H H' : Hp} (a : Kx S H H') {p : Addr} {xs : List V} (h : H p = some (.tup xs)) (n : ¬ S p) : H' p = some (.tup xs) := a.at_ p _ h (fun _ z => nomatch z) n
theorem Ke.tup {H H' : Hp} (a : Ke H H') {p : Addr} {xs : List V} (h : H p = some (.tup xs)) : H' p = some (.tup xs) := a.at_ p _ h (fun _ z => nomatch z) fun z => z
theorem Kx.seqL {S : Addr → Prop} {K : PySem.W.Frag} {H H' : Hp} {p : Addr} {xs : List V} (a : Kx S H H') (h : SqL K H p xs) (n : ¬ S p) : SqL K H' p xs := by
  rcases h with (h | ⟨o, h⟩) | h
  · exact .inl (.inl (a.at_ _ _ h (fun _ z => nomatch z) n))
  · exact .inl (.inr ⟨o, a.at_ _ _ h (fun _ z => nomatch z) n⟩)
  · exact .inr h
theorem sqT_of {K : PySem.W.Frag} {H : Hp} {p : Addr} {xs : List V} (h : H p = some (.tup xs)) : SqT K H p xs := .inl (.inl h)
theorem sqL_of {K : PySem.W.Frag} {H : Hp} {p : Addr} {xs : List V} (h : H p = some (.lst xs)) : SqL K H p xs := .inl (.inl h)
/-! ### the deck of drawn numbers -/
def Dig (ds : List Int) : Prop := ∀ d ∈ ds, 0 ≤ d ∧ d < 1000
def Deck (H : Hp) (p : Addr) : Prop := ∃ ds : List Int, H p = some (.lst (ds.map V.int)) ∧ Dig ds
/-- numbers were drawn; besides nothing has changed but what is new -/
structure Dk (p : Addr) (H H' : Hp) : Prop where
  k : Kx (fun b => b = p) H H'
  d : Deck H' p
theorem Dk.refl {p : Addr} {H : Hp} (d : Deck H p) : Dk p H H := ⟨.refl, d⟩
theorem Dk.trans {p : Addr} {H H1 H2 : Hp} (a : Dk p H H1) (b : Dk p H1 H2) : Dk p H H2 := ⟨a.k.trans b.k, b.d⟩
theorem Deck.ke {H H' : Hp} {p : Addr} (d : Deck H p) (a : Ke H H') : Deck H' p := by
  obtain ⟨ds, h, g⟩ := d
  exact ⟨ds, a.lst h, g⟩
theorem Dk.ke {p : Addr} {H H1 H2 : Hp} (a : Dk p H H1) (b : Ke H1 H2) : Dk p H H2 := ⟨a.k.trans b.to, a.d.ke b⟩
theorem Dk.new {p q : Addr} {H H1 : Hp} {o : HO} (a : Dk p H H1) (h : H1 q = none) : Dk p H (upd H1 q o) := a.ke (Ke.new h)
theorem Deck.new {p q : Addr} {H : Hp} {o : HO} (a : Deck H p) (h : H q = none) : Deck (upd H q o) p := a.ke (Ke.new h)
theorem Dk.tup {p q : Addr} {H H1 : Hp} {xs : List V} (a : Dk p H H1) (d : Deck H p) (h : H q = some (.tup xs)) : H1 q = some (.tup xs) := by
  obtain ⟨ds, hd, _⟩ := d
  exact a.k.tup h (ne_of h hd (fun z => nomatch z))
theorem Dk.lst {p q : Addr} {H H1 : Hp} {xs : List V} (a : Dk p H H1) (h : H q = some (.lst xs)) (n : q ≠ p) : H1 q = some (.lst xs) := a.k.at_ q _ h (fun _ z => nomatch z) n
theorem Dk.seqL {K : PySem.W.Frag} {p q : Addr} {H H1 : Hp} {xs : List V} (a : Dk p H H1) (h : SqL K H q xs) (n : q ≠ p) : SqL K H1 q xs := a.k.seqL h n
/-! ### webs -/
def Ties (H : Hp) (rs : List V) (ts : List (Int × Int)) : Prop := Paired (fun (r : V) (t : Int × Int) => ∃ q, r = .ref q ∧ H q = some (.tup [.int t.1, .int t.2])) rs ts
def Web (H : Hp) (v : V) (n : Int) (ts : List (Int × Int)) : Prop := ∃ t u rs, v = .ref t ∧ H t = some (.tup [.int n, .ref u]) ∧ H u = some (.tup rs) ∧ Ties H rs ts
theorem Ties.mono {H H' : Hp} {rs : List V} {ts : List (Int × Int)} (h : Ties H rs ts) (k : ∀ q xs, H q = some (.tup xs) → H' q = some (.tup xs)) : Ties H' rs ts := L2.Paired.mapP h fun _ _ ⟨q, e, z⟩ => ⟨q, e, k q _ z⟩
theorem Web.mono {H H' : Hp} {v : V} {n : Int} {ts : List (Int × Int)} (h : Web H v n ts) (k : ∀ q xs, H q = some (.tup xs) → H' q = some (.tup xs)) : Web H' v n ts := by
  obtain ⟨t, u, rs, e, h1, h2, h3⟩ := h
  exact ⟨t, u, rs, e, k _ _ h1, k _ _ h2, h3.mono k⟩
theorem Ties.ke {H H' : Hp} {rs : List V} {ts : List (Int × Int)} (h : Ties H rs ts) (k : Ke H H') : Ties H' rs ts := h.mono fun _ _ => k.tup
theorem Web.ke {H H' : Hp} {v : V} {n : Int} {ts : List (Int × Int)} (h : Web H v n ts) (k : Ke H H') : Web H' v n ts := h.mono fun _ _ => k.tup
theorem Ties.dk {H H' : Hp} {p : Addr} {rs : List V} {ts : List (Int × Int)} (h : Ties H rs ts) (k : Dk p H H') (d : Deck H p) : Ties H' rs ts := h.mono fun _ _ => k.tup d
theorem Web.dk {H H' : Hp} {p : Addr} {v : V} {n : Int} {ts : List (Int × Int)} (h : Web H v n ts) (k : Dk p H H') (d : Deck H p) : Web H' v n ts := h.mono fun _ _ => k.tup d
theorem Ties.append {H : Hp} : ∀ {rs qs : List V} {ts us : List (Int × Int)}, Ties H rs ts → Ties H qs us → Ties H (rs ++ qs) (ts ++ us)
  | _, _, _, _, .nil, b => b
  | _, _, _, _, .cons r t, b => .cons r (Ties.append t b)
theorem Ties.take {H : Hp} : ∀ {rs : List V} {ts : List (Int × Int)} (n : Nat), Ties H rs ts → Ties H (rs.take n) (ts.take n)
  | _, _, 0, _ => .nil
  | _, _, _ + 1, .nil => .nil
  | _, _, n + 1, .cons r t => .cons r (Ties.take n t)
theorem Ties.drop {H : Hp} : ∀ {rs : List V} {ts : List (Int × Int)} (n : Nat), Ties H rs ts → Ties H (rs.drop n) (ts.drop n)
  | _, _, 0, h => h
  | _, _, _ + 1, .nil => .nil
  | _, _, n + 1, .cons _ t => Ties.drop n t
theorem Ties.length {H : Hp} {rs : List V} {ts : List (Int × Int)} (h : Ties H rs ts) : rs.length = ts.length := Paired.length h
theorem Ties.get {H : Hp} : ∀ {rs : List V} {ts : List (Int × Int)} {i : Nat} {r : V}, Ties H rs ts → rs[i]? = some r → ∃ t q, ts[i]? = some t ∧ r = .ref q ∧ H q = some (.tup [.int t.1, .int t.2])
  | _, _, _, _, .nil, e => by simp at e
  | _, _, 0, _, .cons (b := t) ⟨q, e1, e2⟩ _, e => by simp at e; subst e; exact ⟨t, q, rfl, e1, e2⟩
  | _, _, i + 1, r, .cons _ t, e => by
    obtain ⟨u, q, h1, h2, h3⟩ := Ties.get (i := i) (r := r) t (by simpa using e)
    exact ⟨u, q, by simpa using h1, h2, h3⟩
theorem Deck.put {H : Hp} {p q : Addr} {o : HO} (d : Deck H p) (n : p ≠ q) : Deck (upd H q o) p := by
  obtain ⟨ds, h, g⟩ := d
  exact ⟨ds, by rw [upd_ne n]; exact h, g⟩
theorem Deck.ne {H : Hp} {p q : Addr} (d : Deck H p) (h : H q = none) : p ≠ q := by
  obtain ⟨ds, e, _⟩ := d
  exact ne_of_none e h
theorem Dk.over {p q : Addr} {H G : Hp} {o : HO} (k : Dk p H G) (d : Deck H p) (h : H q = none) : Dk p H (upd G q o) := ⟨k.k.over h, k.d.put (d.ne h)⟩
theorem Ties.new {H : Hp} {p : Addr} {o : HO} {rs : List V} {ts : List (Int × Int)} (h : Ties H rs ts) (n : H p = none) : Ties (upd H p o) rs ts := h.mono fun q xs e => by rw [upd_ne (ne_of_none e n)]; exact e
theorem Ties.put {H : Hp} {p : Addr} {o : HO} {zs : List V} {rs : List V} {ts : List (Int × Int)} (h : Ties H rs ts) (n : H p = some (.lst zs)) : Ties (upd H p o) rs ts := h.mono fun q xs e => by rw [upd_ne (ne_of e n (fun z => nomatch z))]; exact e
theorem Ties.one {H : Hp} {q : Addr} {a b : Int} (h : H q = some (.tup [.int a, .int b])) : Ties H [.ref q] [(a, b)] := .cons ⟨q, rfl, h⟩ .nil
/-- a list of ties stands at l -/
def TL (H : Hp) (l : Addr) (ts : List (Int × Int)) : Prop := ∃ rs, H l = some (.lst rs) ∧ Ties H rs ts
def TOk (n : Int) (ts : List (Int × Int)) : Prop := ∀ t ∈ ts, 0 ≤ t.1 ∧ t.1 < t.2 ∧ t.2 < n
theorem TOk.nil {n : Int} : TOk n [] := fun _ z => nomatch z
theorem TOk.append {n : Int} {ts us : List (Int × Int)} (a : TOk n ts) (b : TOk n us) : TOk n (ts ++ us) := fun t ht => (List.mem_append.mp ht).elim (a t) (b t)
theorem TOk.one {n a b : Int} (h0 : 0 ≤ a) (h1 : a < b) (h2 : b < n) : TOk n [(a, b)] := fun t ht => by rw [List.mem_singleton.mp ht]; exact ⟨h0, h1, h2⟩
theorem TL.ke {H H' : Hp} {l : Addr} {ts : List (Int × Int)} (h : TL H l ts) (k : Ke H H') : TL H' l ts := by
  obtain ⟨rs, e, t⟩ := h
  exact ⟨rs, k.lst e, t.ke k⟩
theorem TL.dk {H H' : Hp} {l p : Addr} {ts : List (Int × Int)} (h : TL H l ts) (k : Dk p H H') (d : Deck H p) (n : l ≠ p) : TL H' l ts := by
  obtain ⟨rs, e, t⟩ := h
  exact ⟨rs, k.lst e n, t.dk k d⟩
end FF
namespace FF
open PySem PySem.Spec PyProof.Rows L2
variable [LT]
/-! ### the code object of a def -/
theorem code_at {K : PySem.W.Frag} {x q : Str} {pa : Arguments} {bd : List Stmt} {sc : Scope} {dvs : List V} {kws : List (Str × V)} {f : Addr} {fd : FuncData} (F : FunD K x q pa bd sc dvs kws f fd) : ∃ c, fd.code = .ref c := by
  obtain ⟨oc, od, dV, kV, doc, pm, an, cdv, ct, osl, rfl, lk, hcd, _, _⟩ := F.ex
  exact He.codeIn_ref hcd
theorem code_is {K : PySem.W.Frag} {x q : Str} {pa : Arguments} {bd : List Stmt} {sc : Scope} {dvs : List V} {kws : List (Str × V)} {p : Str × Option Str} {fd : FuncData} {c : Addr} (F : FunD K x q pa bd sc dvs kws (He.fAd K p) fd) (h : fd.code = .ref c) : fd.code = .ref (He.cT K p).1 := by
  obtain ⟨oc, od, dV, kV, doc, pm, an, cdv, ct, osl, rfl, lk, hcd, _, _⟩ := F.ex
  rw [h]
  exact congrArg Value.ref (He.codeOf_eq lk h).symm
/-! ### slices -/
theorem cut_to (xs : List V) (n : Nat) : cutV xs none (some (n : Int)) = xs.take n := by
  unfold cutV
  rw [HT.sIx_none, HT.sIx_nat]
  show (xs.drop 0).take (min n xs.length - 0) = xs.take n
  rw [List.drop_zero, Nat.sub_zero]
  rcases Nat.le_total n xs.length with h | h
  · rw [Nat.min_eq_left h]
  · rw [Nat.min_eq_right h, List.take_of_length_le (Nat.le_refl _), List.take_of_length_le h]
theorem cut_from (xs : List V) (n : Nat) : cutV xs (some (n : Int)) none = xs.drop n := by
  unfold cutV
  rw [HT.sIx_none, HT.sIx_nat]
  rcases Nat.le_total n xs.length with h | h
  · rw [Nat.min_eq_left h, List.take_of_length_le (by rw [List.length_drop]; omega)]
  · rw [Nat.min_eq_right h, Nat.sub_self, List.take_zero, List.drop_of_length_le h]
theorem cut_to' (xs : List V) {i : Int} (h : 0 ≤ i) : cutV xs none (some i) = xs.take i.toNat := by
  rw [← cut_to, Int.toNat_of_nonneg h]
theorem cut_from' (xs : List V) {i : Int} (h : 0 ≤ i) : cutV xs (some i) none = xs.drop i.toNat := by
  rw [← cut_from, Int.toNat_of_nonneg h]
theorem line_big : 16000000 ≤ sizeLine := by decide
theorem emod_bds (x : Int) {n : Int} (h : 0 < n) : 0 ≤ x % n ∧ x % n < n := ⟨Int.emod_nonneg _ (by omega), Int.emod_lt_of_pos _ h⟩
theorem get_int {xs : List Int} {i : Nat} (h : i < xs.length) : (xs.map V.int)[i]? = some (.int xs[i]) := by
  rw [List.getElem?_map, List.getElem?_eq_getElem h]
  rfl
theorem at_int {xs : List Int} {i : Int} (h0 : 0 ≤ i) (h1 : i < xs.length) : ∃ v, v ∈ xs ∧ xs[i.toNat]? = some v ∧ atI (xs.map V.int) i = some (.int v) := by
  obtain ⟨j, rfl⟩ : ∃ j : Nat, i = j := ⟨i.toNat, by omega⟩
  have hj : j < xs.length := by omega
  exact ⟨xs[j], List.getElem_mem _, List.getElem?_eq_getElem hj, atI_nat (get_int hj)⟩
theorem ix_in {n : Nat} {i : Int} (h0 : 0 ≤ i) (h1 : i < n) : ixN n i = some i.toNat := by
  unfold ixN
  rw [if_pos h0, if_pos h1]
theorem yes_ite {σ : L2.St} {H : Hp} {A B : Hp → Prop} (h : A H) : tYes σ H (fun b H3 => if b = true then A H3 else B H3) := by
  show if true = true then A H else B H
  rw [if_pos rfl]
  exact h
theorem int_at {ns : List Int} {i : Nat} {x : V} (hx : (ns.map V.int)[i]? = some x) : ∃ v, ns[i]? = some v ∧ x = .int v := by
  rw [List.getElem?_map] at hx
  cases e : ns[i]? with
  | none => rw [e] at hx; cases hx
  | some v => rw [e] at hx; exact ⟨v, rfl, (Option.some.inj hx).symm⟩
theorem TOk.mono {n m : Int} {ts : List (Int × Int)} (h : TOk n ts) (k : n ≤ m) : TOk m ts := fun t ht => ⟨(h t ht).1, (h t ht).2.1, Int.lt_of_lt_of_le (h t ht).2.2 k⟩
theorem TOk.sub {n : Int} {ts us : List (Int × Int)} (h : TOk n ts) (k : ∀ t ∈ us, t ∈ ts) : TOk n us := fun t ht => h t (k t ht)
theorem lst_new {H : Hp} {p q : Addr} {o : HO} {xs : List V} (n : H p = none) (h : H q = some (.lst xs)) : upd H p o q = some (.lst xs) := by rw [upd_ne (ne_of_none h n)]; exact h
theorem tup_new {H : Hp} {p q : Addr} {o : HO} {xs : List V} (n : H p = none) (h : H q = some (.tup xs)) : upd H p o q = some (.tup xs) := by rw [upd_ne (ne_of_none h n)]; exact h
/-! ### things of any kind -/
inductive TyN (H : Hp) : V → String → Prop where
  | non : TyN H .non "NoneType"
  | bl (b : Bool) : TyN H (.bl b) "bool"
  | int (i : Int) : TyN H (.int i) "int"
  | str (x : Str) : TyN H (.str x) "str"
  | lst {a : Addr} {xs : List V} (h : H a = some (.lst xs)) : TyN H (.ref a) "list"
  | tup {a : Addr} {xs : List V} (h : H a = some (.tup xs)) : TyN H (.ref a) "tuple"
  | dic {a : Addr} {kvs : List (Key × V)} (h : H a = some (.dK kvs)) : TyN H (.ref a) "dict"
theorem TyN.x {K : PySem.W.Frag} {H : Hp} {v : V} {n : String} (h : TyN H v n) : TyX K H v (.type n) := by
  cases h with
  | non => exact .base .non
  | bl b => exact .base (.bl b)
  | int i => exact .base (.int i)
  | str x => exact .base (.str x)
  | lst h => exact .base (.lst h)
  | tup h => exact .base (.tup h)
  | dic h => exact .base (.dK h)
def isNum (v : V) (lo hi : Int) : Bool := match v with
  | .int i => decide (lo ≤ i) && decide (i ≤ hi)
  | _ => false
theorem iteB {b : Bool} {A B : Prop} (h1 : b = true → A) (h2 : b = false → B) : if b = true then A else B := by
  cases b with
  | true => exact iteT (h1 rfl)
  | false => exact iteF (h2 rfl)
/-- the names of the kinds -/
def isiB (n : String) (c : String) : Bool := n == c || (n == "bool" && c == "int")
theorem TyN.isi {K : PySem.W.Frag} {H : Hp} {v : V} {n : String} (h : TyN H v n) {c : String} (hc : c = "int" ∨ c = "bool" ∨ c = "tuple" ∨ c = "list") : PySem.W.kitOne K (.type n) (.type c) = some (isiB n c) := by
  rcases hc with rfl | rfl | rfl | rfl <;> cases h <;> exact kit_ty (by decide +kernel)
end FF
namespace FF
open PySem PySem.Spec PyProof.Rows L2
variable [LT]
/-! ### walks of generator expressions -/
section
variable {α : Type} {K : PySem.W.Frag} {u : Addr} {xs : List V} {g : TG} {tt : TT} {te : TE} {vs : List Nat} {σ0 : L2.St} {yl : α → V → Hp → (α → Hp → Prop) → Prop} {dn : α → Hp → Prop} {G : Hp} {a0 : α}
end
/-! ### ties within a lot -/
def inside (ls : List Int) (ts : List (Int × Int)) : Nat := (ts.filter fun t => decide (t.1 ∈ ls) && decide (t.2 ∈ ls)).length
theorem inV_int (a : Int) (ls : List Int) : inV (.int a) (ls.map V.int) = decide (a ∈ ls) := by
  unfold inV
  rw [List.any_map]
  induction ls with
  | nil => rfl
  | cons x r ih =>
    rw [List.any_cons, ih]
    have e : ((fun y => eqV y (V.int a)) ∘ V.int) x = decide (x = a) := rfl
    rw [e]
    by_cases hx : x = a
    · subst hx
      simp
    · have : ¬ a = x := fun z => hx z.symm
      simp [hx, this]
end FF
namespace FF
open PySem PySem.Spec PyProof.Rows L2
variable [LT]
/-! ### rules that speak of the written part, by its own letter (for the blocks of comprehensions) -/
section
variable {X : Cx} {K : PySem.W.Frag}
theorem in_seqK (h : X.K = K := by rfl) : OpR X (compareOp .In) (rIn K false) := h ▸ op_in_seq
theorem notIn_seqK (h : X.K = K := by rfl) : OpR X (compareOp .NotIn) (rIn K true) := h ▸ op_notIn_seq
theorem ix_listK (h : X.K = K := by rfl) : IxR X (rIxL K) := h ▸ ix_list
theorem ix_tupK (h : X.K = K := by rfl) : IxR X (rIxT K) := h ▸ ix_tup
theorem sl_listK (h : X.K = K := by rfl) : L2.SlR X (rSlL K) := h ▸ sl_list
theorem eqDK (hu : X.A.units + 64 < cLine) (h : X.K = K := by rfl) : OpR X (compareOp .Eq) (rEqD K) := h ▸ op_eqD hu
theorem neDK (hu : X.A.units + 64 < cLine) (h : X.K = K := by rfl) : OpR X (compareOp .NotEq) (rNeD K) := h ▸ op_neD hu
theorem lenK (h : X.K = K := by rfl) : CallR X (.builtin "len") (fun xs H Q => ∃ p ys, xs = [.ref p] ∧ (SqL K H p ys ∨ SqT K H p ys) ∧ Q (.int ys.length) H) := h ▸ call_len_seq
theorem listK (h : X.K = K := by rfl) : CallR X (.type "list") (fun xs H Q => ∃ p ys, xs = [.ref p] ∧ (SqL K H p ys ∨ SqT K H p ys) ∧ ∀ l, H l = none → Q (.ref l) (upd H l (.lst ys))) := h ▸ call_list_of
theorem tupleK (h : X.K = K := by rfl) : CallR X (.type "tuple") (fun xs H Q => ∃ p ys, xs = [.ref p] ∧ ((SqL K H p ys ∧ ∀ l, H l = none → Q (.ref l) (upd H l (.tup ys))) ∨ (SqT K H p ys ∧ Q (.ref p) H))) := h ▸ call_tuple_of
theorem isiK (h : X.K = K := by rfl) : CallR X (.builtin "isinstance") (rIsi K) := h ▸ call_isi
theorem tgtK {es : List Expr} {k n : Nat} {t : TGs} {pos : Pos} (hp : PGs X es t) (hc : X.calm = true := by rfl) (h : X.K = K := by rfl)
    (hn : (assignEach es X.env).length = n := by rfl) (hst : (assignEach es X.env).findIdx? (·.1) = none := by rfl) : PG X (.Tuple es k pos) (gTup K n t) := h ▸ pg_tup hc hp hn hst
end
/-! ### slices and sums of tuples: what is told may be an old tuple or a new one -/
def rSlU (_ : PySem.W.Frag) : V → Option Int → Option Int → Hp → VK → Prop := fun x lo hi H Q => ∃ a xs, x = .ref a ∧ H a = some (.tup xs) ∧ ∀ p H', Ke H H' → H' p = some (.tup (cutV xs lo hi)) → Q (.ref p) H'
theorem sl_tupU {X : Cx} {K : PySem.W.Frag} (h : X.K = K := by rfl) : L2.SlR X (rSlU K) := by
  intro pins s σ H x v vl vu lo hi sl Q I rx hs pl pu hq
  obtain ⟨a, xs, e, hx, q⟩ := hq
  refine sl_tupA pins s σ H x v vl vu lo hi sl Q I rx hs pl pu ⟨a, xs, e, sqT_of hx, fun hw => q a H .refl ?_, fun _ p np => q p _ (Ke.new np) upd_same⟩
  rw [hx]
  unfold cutV
  rw [hw.1, hw.2, List.drop_zero, Nat.sub_zero, List.take_length]
def rCatU (_ : PySem.W.Frag) : R2 := fun x y H Q => ∃ a b xs ys, x = .ref a ∧ y = .ref b ∧ H a = some (.tup xs) ∧ H b = some (.tup ys) ∧ xs.length + ys.length ≤ sizeLine ∧ ∀ p H', Ke H H' → H' p = some (.tup (xs ++ ys)) → Q (.ref p) H'
theorem catU {X : Cx} {K : PySem.W.Frag} (h : X.K = K := by rfl) : OpR X (binaryOp .Add) (rCatU K) := by
  intro pins s σ H x y v u Q I rx ry hq
  obtain ⟨a, b, xs, ys, e1, e2, hx, hy, hl, q⟩ := hq
  refine op_catA pins s σ H x y v u Q I rx ry ⟨a, b, xs, ys, e1, e2, sqT_of hx, sqT_of hy, hl, fun z => q b H .refl ?_, fun _ z => q a H .refl ?_, fun _ _ p np => q p _ (Ke.new np) upd_same⟩
  · rw [hy, z, List.nil_append]
  · rw [hx, z, List.append_nil]
end FF
namespace FF
open PySem PySem.Spec PyProof.Rows L2
variable [LT]
/-! ### walked things with the written part said -/
section
variable {X : Cx} {K : PySem.W.Frag} {tg l : Expr} {tl : TE}
theorem pi_tupK (hl : PE X l tl) (h : X.K = K := by rfl) : PI X tg l (iTup K tl) := h ▸ pi_tup hl
end
theorem mt_indexK {X : Cx} {K : PySem.W.Frag} (h : X.K = K := by rfl) : MtR X "list.index" (rIndex K) := h ▸ mt_index
section
variable {X : Cx} {K : PySem.W.Frag} {T : String} {name : Str} {id : String} {r : V → List V → Hp → VK → Prop} {o e : Expr} {es : List Expr} {to : TE} {t : TA} {apos cpos : Pos}
theorem pe_bmK (pa : PlainAttrs T) (slot : Slot T name id) (hty : typeOf (.builtin id) = pure (.type "method_descriptor")) (hm : MtR X id r) (ho : PE X o to) (ha : PA X (e :: es) t) (h : X.K = K := by rfl)
    (hbase : attributeBase o name X.env (eval o X.env) = eval o X.env := by rfl)
    (hfew : ((backTo cpos (starEach (e :: es) X.env)).all (fun x => !x.1) && (backToKw cpos (keywordEach [] X.env)).all (fun x => x.1.isSome)
      && decide ((e :: es).length + ([] : List Keyword).length + (if ([] : List Keyword).isEmpty then 0 else 1) < 30)) = true := by rfl)
    (hline : (apos.endLine == cpos.line) = true := by rfl) (hs : starEach (e :: es) X.env = (false, eval e X.env) :: starEach es X.env := by rfl) (hplain : (backTo cpos (starEach es X.env)).any (·.1) = false := by rfl) :
    PE X (.Call (.Attribute o name apos) (e :: es) [] cpos) (tBM K T r to t) := h ▸ pe_bm pa slot hty hm ho ha hbase hfew hline hs hplain
end
end FF
namespace FF
open PySem PySem.Spec PyProof.Rows L2
variable [LT]
/-! ### lots -/
/-- a thing is a tuple of these, or of another kind -/
inductive Tpl (H : Hp) : V → Option (List V) → Prop where
  | yes {a : Addr} {xs : List V} (h : H a = some (.tup xs)) (hx : ∀ x ∈ xs, ∃ n, TyN H x n) : Tpl H (.ref a) (some xs)
  | no {v : V} {n : String} (h : TyN H v n) (hn : n ≠ "tuple") : Tpl H v none
/-- rising from lo, below n -/
def rising (n : Int) : Int → List V → Bool
  | _, [] => true
  | lo, v :: r => match v with
    | .int i => isNum v lo (n - 1) && rising n (i + 1) r
    | _ => false
def lotO (n : Int) : Option (List V) → Bool
  | none => false
  | some [] => false
  | some (v :: r) => rising n 0 (v :: r)
def intsOf (xs : List V) : List Int := xs.map fun v => match v with
  | .int i => i
  | _ => 0
def fullO (n : Int) (ts : List (Int × Int)) (k : Int) (o : Option (List V)) : Bool := lotO n o && match o with
  | none => false
  | some xs => decide ((inside (intsOf xs) ts : Int) > k * ((xs.length : Int) - 1))
theorem intsOf_map (ls : List Int) : intsOf (ls.map V.int) = ls := by
  unfold intsOf
  rw [List.map_map]
  exact List.map_id' ls
structure Lot (n : Int) (ls : List Int) : Prop where
  ne : ls ≠ []
  up : ls.Pairwise (· < ·)
  ok : ∀ x ∈ ls, 0 ≤ x ∧ x < n
theorem rising_of {n : Int} : ∀ {lo : Int} {ls : List Int}, ls.Pairwise (· < ·) → (∀ x ∈ ls, lo ≤ x ∧ x < n) → rising n lo (ls.map V.int) = true
  | _, [], _, _ => rfl
  | lo, i :: r, hp, hx => by
    obtain ⟨h1, h2⟩ := List.pairwise_cons.mp hp
    have hi := hx i List.mem_cons_self
    show (isNum (.int i) lo (n - 1) && rising n (i + 1) (r.map V.int)) = true
    rw [Bool.and_eq_true_iff]
    refine ⟨?_, rising_of h2 fun x hm => ⟨?_, (hx x (List.mem_cons_of_mem _ hm)).2⟩⟩
    · show (decide (lo ≤ i) && decide (i ≤ n - 1)) = true
      rw [decide_eq_true hi.1, decide_eq_true (by omega : i ≤ n - 1)]
      rfl
    · have := h1 x hm
      omega
theorem Lot.o {n : Int} {ls : List Int} (h : Lot n ls) : lotO n (some (ls.map V.int)) = true := by
  cases e : ls with
  | nil => exact absurd e h.ne
  | cons i r =>
    rw [← e]
    have : lotO n (some (ls.map V.int)) = rising n 0 (ls.map V.int) := by rw [e]; rfl
    rw [this]
    exact rising_of h.up h.ok
theorem Lot.full {n : Int} {ls : List Int} (h : Lot n ls) (ts : List (Int × Int)) (k : Int) : fullO n ts k (some (ls.map V.int)) = decide ((inside ls ts : Int) > k * ((ls.length : Int) - 1)) := by
  unfold fullO
  rw [h.o, Bool.true_and]
  show decide ((inside (intsOf (ls.map V.int)) ts : Int) > k * (((ls.map V.int).length : Int) - 1)) = _
  rw [intsOf_map, List.length_map]
theorem Lot.one {n x : Int} (h0 : 0 ≤ x) (h1 : x < n) : Lot n [x] := ⟨List.cons_ne_nil _ _, List.pairwise_singleton _ _, fun y hy => by rw [List.mem_singleton.mp hy]; exact ⟨h0, h1⟩⟩
theorem Lot.two {n x y : Int} (h0 : 0 ≤ x) (h1 : x < y) (h2 : y < n) : Lot n [x, y] := ⟨List.cons_ne_nil _ _, by simp [h1], fun z hz => by
  rcases List.mem_cons.mp hz with rfl | hz
  · exact ⟨h0, by omega⟩
  · rw [List.mem_singleton.mp hz]
    exact ⟨by omega, h2⟩⟩
theorem ty_ints {H : Hp} (ls : List Int) : ∀ x ∈ ls.map V.int, ∃ n, TyN H x n := fun x hx => by
  obtain ⟨i, _, rfl⟩ := List.mem_map.mp hx
  exact ⟨_, .int i⟩
theorem dp_ints {K : PySem.W.Frag} {H : Hp} : ∀ ls : List Int, DpAll K H (ls.map V.int) (ls.map PyData.int)
  | [] => .nil
  | i :: r => .cons (.int i) (dp_ints r)
theorem Lot.all {n : Int} (h : 1 ≤ n) : Lot n ((List.range n.toNat).map fun (i : Nat) => (i : Int)) := by
  refine ⟨fun z => ?_, ?_, fun x hx => ?_⟩
  · have := congrArg List.length z
    simp at this
    omega
  · rw [List.pairwise_map]
    exact List.pairwise_lt_range.imp fun h => by omega
  · obtain ⟨i, hi, rfl⟩ := List.mem_map.mp hx
    have := List.mem_range.mp hi
    omega
theorem rgV_ints (n : Int) : rgV 0 n = ((List.range n.toNat).map fun (i : Nat) => (i : Int)).map V.int := by
  unfold rgV
  rw [List.map_map, Int.sub_zero]
  apply List.map_congr_left
  intro i _
  show V.int (0 + (i : Int)) = V.int (i : Int)
  rw [Int.zero_add]
theorem up_length {n : Int} : ∀ {lo : Int} {ls : List Int}, ls.Pairwise (· < ·) → (∀ x ∈ ls, lo ≤ x ∧ x < n) → (ls.length : Int) ≤ max 0 (n - lo)
  | _, [], _, _ => by simp; omega
  | lo, i :: r, hp, hx => by
    obtain ⟨h1, h2⟩ := List.pairwise_cons.mp hp
    have hi := hx i List.mem_cons_self
    have ih := up_length (lo := i + 1) h2 fun x hm => ⟨by have := h1 x hm; omega, (hx x (List.mem_cons_of_mem _ hm)).2⟩
    rw [List.length_cons]
    omega
theorem Lot.length {n : Int} {ls : List Int} (h : Lot n ls) : (ls.length : Int) ≤ max 0 n := by
  have := up_length h.up h.ok
  omega
end FF
namespace FF
open PySem PySem.Spec PyProof.Rows L2
variable [LT]
/-! ### joined points: roots, labels, and how many are apart (plain mathematics) -/
theorem step_mem (acc : List Int) (x k : Int) : k ∈ step_dedup acc x ↔ k ∈ acc ∨ k = x := by
  unfold step_dedup
  split
  · rename_i h
    constructor
    · exact .inl
    · rintro (z | rfl)
      · exact z
      · simpa using h
  · simp
theorem step_nd {acc : List Int} (x : Int) (h : acc.Nodup) : (step_dedup acc x).Nodup := by
  unfold step_dedup
  split
  · exact h
  · rename_i hx
    rw [List.nodup_append]
    refine ⟨h, by simp, fun a ha b hb => ?_⟩
    rw [List.mem_singleton.mp hb]
    rintro rfl
    exact hx (by simpa using ha)
theorem fold_mem : ∀ (ns acc : List Int) (k : Int), k ∈ ns.foldl step_dedup acc ↔ k ∈ acc ∨ k ∈ ns
  | [], acc, k => by simp
  | x :: r, acc, k => by
    rw [List.foldl_cons, fold_mem r, step_mem, List.mem_cons, or_assoc]
theorem fold_nd : ∀ (ns acc : List Int), acc.Nodup → (ns.foldl step_dedup acc).Nodup
  | [], _, h => h
  | x :: r, acc, h => by
    rw [List.foldl_cons]
    exact fold_nd r _ (step_nd x h)
theorem mem_nub (ns : List Int) (k : Int) : k ∈ nub ns ↔ k ∈ ns := by
  unfold nub
  rw [fold_mem]
  simp
theorem nub_nd (ns : List Int) : (nub ns).Nodup := fold_nd ns [] List.nodup_nil
theorem nd_le : ∀ {l m : List Int}, l.Nodup → (∀ x ∈ l, x ∈ m) → l.length ≤ m.length
  | [], _, _, _ => Nat.zero_le _
  | x :: r, m, hd, hs => by
    obtain ⟨h1, h2⟩ := List.nodup_cons.mp hd
    have hx := hs x List.mem_cons_self
    have ih := nd_le (l := r) (m := m.erase x) h2 fun y hy => by
      have hne : y ≠ x := fun z => h1 (z ▸ hy)
      exact (List.mem_erase_of_ne hne).mpr (hs y (List.mem_cons_of_mem _ hy))
    rw [List.length_erase_of_mem hx] at ih
    have := List.length_pos_of_mem hx
    rw [List.length_cons]
    omega
theorem nd_eq {l m : List Int} (h1 : l.Nodup) (h2 : m.Nodup) (h : ∀ x, x ∈ l ↔ x ∈ m) : l.length = m.length :=
  Nat.le_antisymm (nd_le h1 fun x hx => (h x).mp hx) (nd_le h2 fun x hx => (h x).mpr hx)
/-- labels, two of them made one -/
def mrg (a b x : Int) : Int := if x = a ∨ x = b then min a b else x
theorem nub_same (a : Int) (hs : List Int) : (nub (hs.map (mrg a a))).length = (nub hs).length := by
  have e : hs.map (mrg a a) = hs := by
    conv => rhs; rw [← List.map_id hs]
    apply List.map_congr_left
    intro x _
    unfold mrg
    split
    · rename_i h
      rcases h with rfl | rfl <;> simp
    · rfl
  rw [e]
theorem nub_less {a b : Int} {hs : List Int} (ha : a ∈ hs) (hb : b ∈ hs) (h : a ≠ b) : (nub (hs.map (mrg a b))).length + 1 = (nub hs).length := by
  have hmax : max a b ∈ nub hs := (mem_nub _ _).mpr (by
    rcases Int.le_total a b with z | z
    · rw [Int.max_eq_right z]; exact hb
    · rw [Int.max_eq_left z]; exact ha)
  have hl : ((nub hs).erase (max a b)).length + 1 = (nub hs).length := by
    rw [List.length_erase_of_mem hmax]
    have := List.length_pos_of_mem hmax
    omega
  rw [← hl]
  congr 1
  refine nd_eq (nub_nd _) ((nub_nd hs).erase _) fun x => ?_
  rw [mem_nub, List.mem_map, (nub_nd hs).mem_erase_iff, mem_nub]
  constructor
  · rintro ⟨y, hy, rfl⟩
    unfold mrg
    split
    · refine ⟨by omega, ?_⟩
      rcases Int.le_total a b with z | z
      · rw [Int.min_eq_left z]; exact ha
      · rw [Int.min_eq_right z]; exact hb
    · rename_i hn
      exact ⟨by omega, hy⟩
  · rintro ⟨h1, h2⟩
    by_cases hx : x = a ∨ x = b
    · refine ⟨x, h2, ?_⟩
      unfold mrg
      rw [if_pos hx]
      omega
    · refine ⟨x, h2, ?_⟩
      unfold mrg
      rw [if_neg hx]
end FF
namespace FF
open PySem PySem.Spec PyProof.Rows L2
variable [LT]
def rstep (r : Int → Int) (t : Int × Int) : Int → Int := fun x => if r x = r t.2 then r t.1 else r x
def ringlessF : (Int → Int) → List (Int × Int) → Bool
  | _, [] => true
  | r, t :: ts => if r t.1 = r t.2 then false else ringlessF (rstep r t) ts
def hat (hs : List Int) (x : Int) : Int := hs.getD x.toNat 0
def hstep (hs : List Int) (t : Int × Int) : List Int := hs.map (mrg (hat hs t.1) (hat hs t.2))
def headsF (hs : List Int) (ts : List (Int × Int)) : List Int := ts.foldl hstep hs
structure Ker (n : Int) (r : Int → Int) (hs : List Int) : Prop where
  len : (hs.length : Int) = n
  ker : ∀ x y, 0 ≤ x → x < n → 0 ≤ y → y < n → (r x = r y ↔ hat hs x = hat hs y)
theorem hat_map {hs : List Int} {f : Int → Int} {x : Int} (h0 : 0 ≤ x) (h1 : x < hs.length) : hat (hs.map f) x = f (hat hs x) := by
  have hx : x.toNat < hs.length := by omega
  unfold hat
  rw [List.getD_eq_getElem?_getD, List.getD_eq_getElem?_getD, List.getElem?_map, List.getElem?_eq_getElem hx]
  rfl
theorem hat_mem {hs : List Int} {x : Int} (h0 : 0 ≤ x) (h1 : x < hs.length) : hat hs x ∈ hs := by
  have hx : x.toNat < hs.length := by omega
  unfold hat
  rw [List.getD_eq_getElem?_getD, List.getElem?_eq_getElem hx]
  exact List.getElem_mem hx
theorem Ker.step {n : Int} {r : Int → Int} {hs : List Int} (k : Ker n r hs) {t : Int × Int} (h : 0 ≤ t.1 ∧ t.1 < t.2 ∧ t.2 < n) : Ker n (rstep r t) (hstep hs t) := by
  have hl := k.len
  refine ⟨by unfold hstep; rw [List.length_map]; exact hl, fun x y x0 x1 y0 y1 => ?_⟩
  unfold hstep
  rw [hat_map x0 (by omega), hat_map y0 (by omega)]
  have a1 := k.ker x y x0 x1 y0 y1
  have a2 := k.ker x t.1 x0 x1 h.1 (by omega)
  have a3 := k.ker x t.2 x0 x1 (by omega) h.2.2
  have a4 := k.ker y t.1 y0 y1 h.1 (by omega)
  have a5 := k.ker y t.2 y0 y1 (by omega) h.2.2
  have a6 := k.ker t.1 t.2 h.1 (by omega) (by omega) h.2.2
  unfold rstep mrg
  generalize r x = rx at *
  generalize r y = ry at *
  generalize r t.1 = ra at *
  generalize r t.2 = rb at *
  generalize hat hs x = hx at *
  generalize hat hs y = hy at *
  generalize hat hs t.1 = ha at *
  generalize hat hs t.2 = hb at *
  split <;> split <;> split <;> split <;> omega
theorem nub_step {n : Int} {r : Int → Int} {hs : List Int} (k : Ker n r hs) {t : Int × Int} (h : 0 ≤ t.1 ∧ t.1 < t.2 ∧ t.2 < n) :
    (r t.1 = r t.2 → (nub (hstep hs t)).length = (nub hs).length) ∧ (r t.1 ≠ r t.2 → (nub (hstep hs t)).length + 1 = (nub hs).length) := by
  have hl := k.len
  have e := k.ker t.1 t.2 h.1 (by omega) (by omega) h.2.2
  refine ⟨fun z => ?_, fun z => ?_⟩
  · unfold hstep
    rw [← e.mp z]
    exact nub_same _ _
  · unfold hstep
    exact nub_less (hat_mem h.1 (by omega)) (hat_mem (by omega) (by omega)) fun q => z (e.mpr q)
theorem forest_count {n : Int} : ∀ (ts : List (Int × Int)) (r : Int → Int) (hs : List Int), Ker n r hs → TOk n ts →
    (nub hs).length ≤ ts.length + (nub (headsF hs ts)).length ∧ (ringlessF r ts = true ↔ ts.length + (nub (headsF hs ts)).length = (nub hs).length)
  | [], r, hs, _, _ => by
    refine ⟨by simp [headsF], ?_⟩
    simp [headsF, ringlessF]
  | t :: ts, r, hs, k, hok => by
    have ht := hok t List.mem_cons_self
    obtain ⟨i1, i2⟩ := forest_count ts (rstep r t) (hstep hs t) (k.step ht) fun x hx => hok x (List.mem_cons_of_mem _ hx)
    obtain ⟨s1, s2⟩ := nub_step k ht
    have e : headsF hs (t :: ts) = headsF (hstep hs t) ts := rfl
    rw [e, List.length_cons]
    unfold ringlessF
    by_cases z : r t.1 = r t.2
    · have := s1 z
      rw [if_pos z]
      refine ⟨by omega, ?_⟩
      constructor
      · intro q; cases q
      · intro q; omega
    · have := s2 z
      rw [if_neg z]
      refine ⟨by omega, ?_⟩
      rw [i2]
      omega
def upTo (n : Int) : List Int := (List.range n.toNat).map fun (i : Nat) => (i : Int)
theorem upTo_length (n : Int) : (upTo n).length = n.toNat := by unfold upTo; rw [List.length_map, List.length_range]
theorem upTo_nd (n : Int) : (upTo n).Nodup := by
  unfold upTo
  rw [List.nodup_iff_pairwise_ne, List.pairwise_map]
  exact List.pairwise_lt_range.imp fun h => by omega
theorem hat_upTo {n x : Int} (h0 : 0 ≤ x) (h1 : x < n) : hat (upTo n) x = x := by
  have hx : x.toNat < (upTo n).length := by rw [upTo_length]; omega
  unfold hat
  rw [List.getD_eq_getElem?_getD, List.getElem?_eq_getElem hx]
  simp only [upTo, List.getElem_map, List.getElem_range, Option.getD_some]
  omega
theorem Ker.start {n : Int} (h : 0 ≤ n) : Ker n (fun x => x) (upTo n) := ⟨by rw [upTo_length]; omega, fun x y x0 x1 y0 y1 => by rw [hat_upTo x0 x1, hat_upTo y0 y1]⟩
end FF
namespace FF
open PySem PySem.Spec PyProof.Rows L2
variable [LT]
/-! ### leaders: each point leads to one nearer to its root -/
structure UF (n : Int) (ls : List Int) (r : Int → Int) (d : Int → Nat) : Prop where
  len : (ls.length : Int) = n
  rng : ∀ x, 0 ≤ x → x < n → 0 ≤ hat ls x ∧ hat ls x < n
  root : ∀ x, 0 ≤ x → x < n → r (hat ls x) = r x
  top : ∀ x, 0 ≤ x → x < n → hat ls x = x → r x = x
  down : ∀ x, 0 ≤ x → x < n → hat ls x ≠ x → d (hat ls x) < d x
  rr : ∀ x, 0 ≤ x → x < n → 0 ≤ r x ∧ r x < n ∧ hat ls (r x) = r x
theorem hat_set {ls : List Int} {i v x : Int} (h0 : 0 ≤ i) (h1 : i < ls.length) (x0 : 0 ≤ x) : hat (ls.set i.toNat v) x = if x = i then v else hat ls x := by
  unfold hat
  rw [List.getD_eq_getElem?_getD, List.getD_eq_getElem?_getD, List.getElem?_set]
  by_cases e : x = i
  · subst e
    rw [if_pos rfl, if_pos rfl, if_pos (by omega)]
    rfl
  · rw [if_neg e, if_neg (by omega)]
/-- halving the way -/
theorem UF.half {n : Int} {ls : List Int} {r : Int → Int} {d : Int → Nat} (u : UF n ls r d) {x : Int} (x0 : 0 ≤ x) (x1 : x < n) (hne : hat ls x ≠ x) : UF n (ls.set x.toNat (hat ls (hat ls x))) r d := by
  have hl := u.len
  obtain ⟨y0, y1⟩ := u.rng x x0 x1
  obtain ⟨z0, z1⟩ := u.rng _ y0 y1
  have hs : ∀ y, 0 ≤ y → hat (ls.set x.toNat (hat ls (hat ls x))) y = if y = x then hat ls (hat ls x) else hat ls y := fun y h => hat_set x0 (by omega) h
  have hrz : r (hat ls (hat ls x)) = r x := (u.root _ y0 y1).trans (u.root x x0 x1)
  have hdd : d (hat ls (hat ls x)) < d x := by
    have h1 := u.down x x0 x1 hne
    by_cases e : hat ls (hat ls x) = hat ls x
    · rw [e]; exact h1
    · have := u.down _ y0 y1 e
      omega
  refine ⟨by rw [List.length_set]; exact hl, fun y h0 h1 => ?_, fun y h0 h1 => ?_, fun y h0 h1 => ?_, fun y h0 h1 => ?_, fun y h0 h1 => ?_⟩
  · rw [hs y h0]
    split
    · exact ⟨z0, z1⟩
    · exact u.rng y h0 h1
  · rw [hs y h0]
    split
    · rename_i e
      rw [e]; exact hrz
    · exact u.root y h0 h1
  · rw [hs y h0]
    split
    · rename_i e
      intro q
      rw [e] at q
      rw [q] at hdd
      exact absurd hdd (Nat.lt_irrefl _)
    · exact u.top y h0 h1
  · rw [hs y h0]
    split
    · rename_i e
      rw [e]
      intro _
      exact hdd
    · exact u.down y h0 h1
  · obtain ⟨a0, a1, a2⟩ := u.rr y h0 h1
    refine ⟨a0, a1, ?_⟩
    rw [hs _ a0]
    split
    · rename_i e
      rw [e] at a2
      exact absurd a2 hne
    · exact a2
/-- two roots made one: b's under a's -/
theorem UF.join {n : Int} {ls : List Int} {r : Int → Int} {d : Int → Nat} (u : UF n ls r d) {a b : Int} (a0 : 0 ≤ a) (a1 : a < n) (b0 : 0 ≤ b) (b1 : b < n) : ∃ d', UF n (ls.set (r b).toNat (r a)) (rstep r (a, b)) d' := by
  have hl := u.len
  obtain ⟨p0, p1, p2⟩ := u.rr a a0 a1
  obtain ⟨q0, q1, q2⟩ := u.rr b b0 b1
  have rra : r (r a) = r a := u.top _ p0 p1 p2
  have rrb : r (r b) = r b := u.top _ q0 q1 q2
  have hs : ∀ y, 0 ≤ y → hat (ls.set (r b).toNat (r a)) y = if y = r b then r a else hat ls y := fun y h => hat_set q0 (by omega) h
  by_cases same : r a = r b
  · -- nothing changes
    have hh : ∀ y, 0 ≤ y → hat (ls.set (r b).toNat (r a)) y = hat ls y := fun y h => by
      rw [hs y h]
      split
      · rename_i e
        rw [e, q2, same]
      · rfl
    have hr : rstep r (a, b) = r := by
      funext y
      unfold rstep
      split
      · rename_i e
        rw [e]; exact same
      · rfl
    rw [hr]
    exact ⟨d, by rw [List.length_set]; exact hl, fun y h0 h1 => by rw [hh y h0]; exact u.rng y h0 h1, fun y h0 h1 => by rw [hh y h0]; exact u.root y h0 h1, fun y h0 h1 => by rw [hh y h0]; exact u.top y h0 h1, fun y h0 h1 => by rw [hh y h0]; exact u.down y h0 h1, fun y h0 h1 => by
      obtain ⟨x0, x1, x2⟩ := u.rr y h0 h1
      exact ⟨x0, x1, by rw [hh _ x0]; exact x2⟩⟩
  · refine ⟨fun y => if r y = r b then d y + d (r a) + 1 else d y, by rw [List.length_set]; exact hl, fun y h0 h1 => ?_, fun y h0 h1 => ?_, fun y h0 h1 => ?_, fun y h0 h1 => ?_, fun y h0 h1 => ?_⟩
    · rw [hs y h0]
      split
      · exact ⟨p0, p1⟩
      · exact u.rng y h0 h1
    · rw [hs y h0]
      have ry := u.root y h0 h1
      unfold rstep
      show (if r (if y = r b then r a else hat ls y) = r b then r a else r (if y = r b then r a else hat ls y)) = if r y = r b then r a else r y
      split
      · rename_i e
        rw [e, rra, rrb, if_neg same, if_pos rfl]
      · rw [ry]
    · rw [hs y h0]
      split
      · rename_i e
        intro q
        exact absurd (q.trans e) same
      · rename_i e
        intro q
        have := u.top y h0 h1 q
        unfold rstep
        show (if r y = r b then r a else r y) = y
        rw [this, if_neg e]
    · rw [hs y h0]
      have ry := u.root y h0 h1
      split
      · rename_i e
        intro _
        show (if r (r a) = r b then d (r a) + d (r a) + 1 else d (r a)) < if r y = r b then d y + d (r a) + 1 else d y
        rw [rra, if_neg same, e, rrb, if_pos rfl]
        omega
      · rename_i e
        intro q
        have := u.down y h0 h1 q
        show (if r (hat ls y) = r b then d (hat ls y) + d (r a) + 1 else d (hat ls y)) < if r y = r b then d y + d (r a) + 1 else d y
        rw [ry]
        split <;> omega
    · obtain ⟨x0, x1, x2⟩ := u.rr y h0 h1
      unfold rstep
      show 0 ≤ (if r y = r b then r a else r y) ∧ (if r y = r b then r a else r y) < n ∧ hat (ls.set (r b).toNat (r a)) (if r y = r b then r a else r y) = if r y = r b then r a else r y
      split
      · refine ⟨p0, p1, ?_⟩
        rw [hs _ p0, if_neg same]
        exact p2
      · rename_i e
        refine ⟨x0, x1, ?_⟩
        rw [hs _ x0, if_neg e]
        exact x2
theorem UF.start {n : Int} (h : 0 ≤ n) : UF n (upTo n) (fun x => x) (fun _ => 0) :=
  ⟨by rw [upTo_length]; omega, fun x h0 h1 => by rw [hat_upTo h0 h1]; exact ⟨h0, h1⟩, fun x h0 h1 => by rw [hat_upTo h0 h1], fun x _ _ _ => rfl, fun x h0 h1 q => absurd (hat_upTo h0 h1) q, fun x h0 h1 => ⟨h0, h1, hat_upTo h0 h1⟩⟩
theorem hat_at {ls : List Int} {x : Int} (h0 : 0 ≤ x) (h1 : x < ls.length) : atI (ls.map V.int) x = some (.int (hat ls x)) := by
  obtain ⟨v, _, hv, e⟩ := at_int h0 h1
  rw [e]
  unfold hat
  rw [List.getD_eq_getElem?_getD, hv]
  rfl
end FF
namespace FF
open PySem PySem.Spec PyProof.Rows L2
variable [LT]
/-! ### ties picked by their numbers -/
def pick (ts : List (Int × Int)) (ms : List Int) : List (Int × Int) := ms.map fun m => ts.getD m.toNat (0, 0)
theorem pick_append (ts : List (Int × Int)) (ms ks : List Int) : pick ts (ms ++ ks) = pick ts ms ++ pick ts ks := List.map_append
theorem pick_length (ts : List (Int × Int)) (ms : List Int) : (pick ts ms).length = ms.length := List.length_map ..
theorem getD_at {ts : List (Int × Int)} {m : Int} (h0 : 0 ≤ m) (h1 : m < ts.length) : ts[m.toNat]? = some (ts.getD m.toNat (0, 0)) := by
  have hx : m.toNat < ts.length := by omega
  rw [List.getD_eq_getElem?_getD, List.getElem?_eq_getElem hx]
  rfl
/-- the k-th of some ties, with its object -/
theorem Ties.at_ {H : Hp} {rs : List V} {ts : List (Int × Int)} (h : Ties H rs ts) {m : Int} (h0 : 0 ≤ m) (h1 : m < ts.length) : ∃ q, atI rs m = some (.ref q) ∧ H q = some (.tup [.int (ts.getD m.toNat (0, 0)).1, .int (ts.getD m.toNat (0, 0)).2]) := by
  have hx : m.toNat < rs.length := by rw [h.length]; omega
  obtain ⟨t, q, e1, e2, e3⟩ := h.get (List.getElem?_eq_getElem hx)
  rw [getD_at h0 h1] at e1
  cases e1
  refine ⟨q, ?_, e3⟩
  have e : ((m.toNat : Nat) : Int) = m := by omega
  have z := atI_nat (xs := rs) (j := m.toNat) ((List.getElem?_eq_getElem hx).trans (congrArg some e2))
  rw [e] at z
  exact z
def foldR (r : Int → Int) (ts : List (Int × Int)) : Int → Int := ts.foldl rstep r
theorem ringlessF_split : ∀ (us : List (Int × Int)) (r : Int → Int) (ws : List (Int × Int)), ringlessF r us = true → ringlessF r (us ++ ws) = ringlessF (foldR r us) ws
  | [], _, _, _ => rfl
  | t :: us, r, ws, h => by
    unfold ringlessF at h
    by_cases e : r t.1 = r t.2
    · rw [if_pos e] at h
      cases h
    · rw [if_neg e] at h
      show (if r t.1 = r t.2 then false else ringlessF (rstep r t) (us ++ ws)) = _
      rw [if_neg e]
      exact ringlessF_split us _ ws h
theorem ringlessF_bad : ∀ (us : List (Int × Int)) (r : Int → Int) (ws : List (Int × Int)), ringlessF r us = false → ringlessF r (us ++ ws) = false
  | [], _, _, h => by cases h
  | t :: us, r, ws, h => by
    unfold ringlessF at h
    by_cases e : r t.1 = r t.2
    · show (if r t.1 = r t.2 then false else ringlessF (rstep r t) (us ++ ws)) = _
      rw [if_pos e]
    · rw [if_neg e] at h
      show (if r t.1 = r t.2 then false else ringlessF (rstep r t) (us ++ ws)) = _
      rw [if_neg e]
      exact ringlessF_bad us _ ws h
theorem foldR_snoc (r : Int → Int) (us : List (Int × Int)) (t : Int × Int) : foldR r (us ++ [t]) = rstep (foldR r us) t := by
  unfold foldR
  rw [List.foldl_append]
  rfl
/-- one tie more -/
theorem ringlessF_more {us : List (Int × Int)} {r : Int → Int} (h : ringlessF r us = true) (t : Int × Int) : ringlessF r (us ++ [t]) = !decide (foldR r us t.1 = foldR r us t.2) := by
  rw [ringlessF_split us r _ h]
  show (if foldR r us t.1 = foldR r us t.2 then false else true) = _
  by_cases e : foldR r us t.1 = foldR r us t.2
  · rw [if_pos e, decide_eq_true e]
    rfl
  · rw [if_neg e, decide_eq_false e]
    rfl
theorem headsF_snoc (hs : List Int) (us : List (Int × Int)) (t : Int × Int) : headsF hs (us ++ [t]) = hstep (headsF hs us) t := by
  unfold headsF
  rw [List.foldl_append]
  rfl
theorem headsF_length (hs : List Int) : ∀ ts : List (Int × Int), (headsF hs ts).length = hs.length := fun ts => by
  induction ts generalizing hs with
  | nil => rfl
  | cons t ts ih =>
    show (headsF (hstep hs t) ts).length = _
    rw [ih]
    unfold hstep
    rw [List.length_map]
/-! ### rings -/
theorem upd_id {H : Hp} {a : Addr} {o : HO} (h : H a = some o) : upd H a o = H := by
  funext b
  by_cases e : b = a
  · rw [e, upd_same, h]
  · rw [upd_ne e]
theorem rgV_up (n : Int) : rgV 0 n = (upTo n).map V.int := rgV_ints n
theorem decide_int (a b : Int) : decide (V.int a = V.int b) = decide (a = b) := by
  by_cases z : a = b
  · rw [decide_eq_true z, decide_eq_true (congrArg V.int z)]
  · rw [decide_eq_false z, decide_eq_false fun h => z (V.int.inj h)]
theorem take_next {α : Type} {xs : List α} {i : Nat} {x : α} (h : xs[i]? = some x) : xs.take (i + 1) = xs.take i ++ [x] := by
  rw [List.take_add_one, h]
  rfl
theorem take_rest {α : Type} {xs : List α} {i : Nat} {x : α} (h : xs[i]? = some x) : xs = xs.take i ++ [x] ++ xs.drop (i + 1) := by
  rw [← take_next h, List.take_append_drop]
theorem Kx.put {S : Addr → Prop} {H H1 : Hp} {p : Addr} {o : HO} (k : Kx S H H1) (h : H p = none) : Kx S H (upd H1 p o) := k.over h
theorem seqIx {n : Nat} {i : Int} (h0 : 0 ≤ i) (h1 : i < n) : seqIndex? i n = some i.toNat := by
  unfold seqIndex?
  have e : ¬ i < 0 := by omega
  simp only [if_neg e]
  rw [if_pos (by simp; omega)]
theorem erase_map {α β : Type} (f : α → β) : ∀ (l : List α) (k : Nat), (l.map f).eraseIdx k = (l.eraseIdx k).map f
  | [], _ => by simp
  | _ :: _, 0 => rfl
  | x :: l, k + 1 => by
    show f x :: (l.map f).eraseIdx k = f x :: (l.eraseIdx k).map f
    rw [erase_map f l k]
theorem upTo_snoc (n : Nat) : upTo ((n : Int) + 1) = upTo n ++ [(n : Int)] := by
  unfold upTo
  rw [show ((n : Int) + 1).toNat = n + 1 by omega, show ((n : Int)).toNat = n by omega, List.range_succ, List.map_append]
  rfl
theorem mem_upTo {n x : Int} (h : x ∈ upTo n) : 0 ≤ x ∧ x < n := by
  unfold upTo at h
  obtain ⟨j, hj, rfl⟩ := List.mem_map.mp h
  have := List.mem_range.mp hj
  omega
def but (g : Int) (ms : List Int) : List Int := ms.filter fun i => !decide (i = g)
/-! ### rows of ties' numbers -/
def IsRow (H : Hp) (m : Nat) (x : V) : Prop := ∃ (a : Addr) (ms : List Int), x = .ref a ∧ H a = some (.tup (ms.map V.int)) ∧ ms.length ≤ 1000 ∧ ∀ y ∈ ms, 0 ≤ y ∧ y < (m : Int)
theorem IsRow.mono {H H' : Hp} {m : Nat} {x : V} (h : IsRow H m x) (k : ∀ q xs, H q = some (.tup xs) → H' q = some (.tup xs)) : IsRow H' m x := by
  obtain ⟨a, ms, e, h1, h2⟩ := h
  exact ⟨a, ms, e, k _ _ h1, h2⟩
theorem IsRow.ke {H H' : Hp} {m : Nat} {x : V} (h : IsRow H m x) (k : Ke H H') : IsRow H' m x := h.mono fun _ _ => k.tup
theorem IsRow.dk {H H' : Hp} {p : Addr} {m : Nat} {x : V} (h : IsRow H m x) (k : Dk p H H') (d : Deck H p) : IsRow H' m x := h.mono fun _ _ => k.tup d
theorem IsRow.new {H : Hp} {p : Addr} {o : HO} {m : Nat} {x : V} (h : IsRow H m x) (k : H p = none) : IsRow (upd H p o) m x := h.mono fun _ _ => tup_new k
theorem IsRow.put {H : Hp} {p : Addr} {o : HO} {ys : List V} {m : Nat} {x : V} (h : IsRow H m x) (k : H p = some (.lst ys)) : IsRow (upd H p o) m x := h.mono fun q xs e => by rw [upd_ne (ne_of e k (fun z => nomatch z))]; exact e
structure Rows (H : Hp) (m : Nat) (xs : List V) : Prop where
  all : ∀ x ∈ xs, IsRow H m x
theorem Rows.nil {H : Hp} {m : Nat} : Rows H m [] := ⟨fun _ z => nomatch z⟩
theorem Rows.app {H : Hp} {m : Nat} {xs ys : List V} (a : Rows H m xs) (b : Rows H m ys) : Rows H m (xs ++ ys) := ⟨fun x hx => (List.mem_append.mp hx).elim (a.all x) (b.all x)⟩
theorem Rows.one {H : Hp} {m : Nat} {x : V} (a : IsRow H m x) : Rows H m [x] := ⟨fun y hy => by rw [List.mem_singleton.mp hy]; exact a⟩
theorem Rows.ke {H H' : Hp} {m : Nat} {xs : List V} (h : Rows H m xs) (k : Ke H H') : Rows H' m xs := ⟨fun x hx => (h.all x hx).ke k⟩
theorem Rows.dk {H H' : Hp} {p : Addr} {m : Nat} {xs : List V} (h : Rows H m xs) (k : Dk p H H') (d : Deck H p) : Rows H' m xs := ⟨fun x hx => (h.all x hx).dk k d⟩
theorem Rows.new {H : Hp} {p : Addr} {o : HO} {m : Nat} {xs : List V} (h : Rows H m xs) (k : H p = none) : Rows (upd H p o) m xs := ⟨fun x hx => (h.all x hx).new k⟩
theorem Rows.put {H : Hp} {p : Addr} {o : HO} {ys : List V} {m : Nat} {xs : List V} (h : Rows H m xs) (k : H p = some (.lst ys)) : Rows (upd H p o) m xs := ⟨fun x hx => (h.all x hx).put k⟩
theorem Rows.take {H : Hp} {m n : Nat} {xs : List V} (h : Rows H m xs) : Rows H m (xs.take n) := ⟨fun x hx => h.all x (List.mem_of_mem_take hx)⟩
end FF
namespace FF
open PySem PySem.Spec PyProof.Rows L2
variable [LT]
/-! ### enumerate of a tuple -/
section
variable {P : Program} {w : World} {A : Around} {E : Value → Shared → Prop} {s : Shared}
end
section
variable {X : Cx}
/-- len(set(t)), t a tuple of ints -/
def tLenSetT (K : PySem.W.Frag) (ta : TE) : TE := fun σ H Q => ta σ H fun x G => ∃ (l : Addr) (ns : List Int), x = V.ref l ∧ SqT K G l (ns.map V.int) ∧ ns.length ≤ 1000 ∧ Q (.int (nub ns).length) G
theorem pe_lenSetT {a : Expr} {ta : TE} {p p2 q pos : Pos} (hg : Gl X "len") (hm : X.mg "len" = none) (hg2 : Gl X "set") (hm2 : X.mg "set" = none) (ha : PE X a ta) (hc : X.calm = true := by rfl)
    (na : starEach [a] X.env = (false, eval a X.env) :: starEach [] X.env := by rfl) : PE X (.Call (.Name "len" p) [.Call (.Name "set" p2) [a] [] q] [] pos) (tLenSetT X.K ta) := by
  refine ⟨fun pins s σ H Q I h => Call_ (ld_blt I hg hm boot_len (PyProof.Rows.callWith_builtin1 (PyProof.Rows.args_cons (Call_ (ld_blt I hg2 hm2 boot_set ?_)) rfl) rfl rfl))⟩
  refine PyProof.Rows.callWith_type1 (PyProof.Rows.args_cons (thn (ha.run pins s σ H _ I h) fun v t ⟨x, G, J, rx, qx⟩ => PyProof.Rows.args_nil ?_) na) na rfl
  obtain ⟨l, ns, rfl, hq, hl, qx⟩ := qx
  cases rx
  obtain ⟨its, r, pl, _⟩ := J.tuple hq
  refine call_set_tupI (w := X.w) ns (J.ok.hd hc) (show t.heap.IsTuple l its.toArray from pl) (by simpa using RZ.intsAre_vals r) (by unfold scanBound; omega) fun h2 tk c R _ hk => PyProof.Rows.args_nil ?_
  obtain ⟨o, es, ep, tt, ho, hex, hd, _, nd, mm, hsz, hf, _, _, _⟩ := R
  have J2 : Inv X pins σ G { t with heap := h2, toks := tk } := J.kept hk
  have hn : es.size = (nub ns).length := by
    have e := nd_eq nd (nub_nd ns) fun k => by
      rw [← mm k, mem_nub]
      exact decide_eq_true_iff
    rw [List.length_map, Array.length_toList] at e
    exact e
  exact call_len_set ho hex hd hf (by unfold scanBound at hsz; omega) ⟨.int (nub ns).length, G, J2.tok _, ⟨_, by rw [hn]⟩, qx⟩
end
end FF
namespace FF
open PySem PySem.Spec PyProof.Rows L2
variable [LT]
/-! ### what is walked: a list or a tuple -/
section
variable {X : Cx}
def iSeq (K : PySem.W.Frag) (tl : TE) : TI := fun σ H R => tl σ H fun x G => ∃ a xs, x = .ref a ∧ ((SqL K G a xs ∧ R (Itl K a) G) ∨ (SqT K G a xs ∧ R (Itt K a) G))
theorem pi_seq {K : PySem.W.Frag} {tg l : Expr} {tl : TE} (hl : PE X l tl) (hK : X.K = K := by rfl) : PI X tg l (iSeq K tl) := by
  subst hK
  constructor
  intro pins s σ H R I h
  refine thn (hl.run pins s σ H _ I h) fun v t ⟨x, G, J, rx, a, xs, ex, hq⟩ => ?_
  subst ex
  cases rx
  rcases hq with ⟨hq, q⟩ | ⟨hq, q⟩
  · obtain ⟨its, _, p, _⟩ := J.list hq
    exact wpAny_pyIter_list p.isList (pi_one (tk := t.toks) J _ (turn_list a _) ⟨_, Heap.get?_push_size _ rfl, rfl, rfl⟩ q)
  · obtain ⟨its, _, p, _⟩ := J.tuple hq
    exact wpAny_pyIter_tuple (show t.heap.IsTuple a its.toArray from p) (pi_one (tk := t.toks) J _ (turn_tuple a _) ⟨_, Heap.get?_push_size _ rfl, rfl, rfl⟩ q)
end
section
variable {α : Type} {g : TG} {tt : TT} {te : TE} {vs : List Nat} {σ0 : L2.St} {yl : α → V → Hp → (α → Hp → Prop) → Prop} {dn : α → Hp → Prop} {H0 : Hp} {a0 : α} {J : It} {n : Nat} {Gd : Hp → Prop} {Y : Nat → Hp → V → Hp → Prop}
theorem gx_it (w : Walk J n Gd Y) (Pv : Nat → α → Hp → Prop) (h0 : Pv 0 a0 H0) (hG : ∀ i a H, i ≤ n → Pv i a H → Gd H)
    (hs : ∀ (i : Nat) x a H H', i < n → Pv i a H → Y i H x H' → g x σ0 H' fun σ2 H2 => wipe σ2 vs = σ0 ∧ tt σ2 H2 fun b H3 => if b = true then te σ2 H3 fun y H4 => yl a y H4 (Pv (i + 1)) else Pv (i + 1) a H3) (hd : ∀ a H, Pv n a H → dn a H) :
    ∃ W : Nat → Nat → α → Hp → Prop, (∃ m, W 0 m a0 H0) ∧ GxT J g tt te vs σ0 W yl dn := by
  refine ⟨fun i m a H => m = n - i ∧ i ≤ n ∧ Pv i a H, ⟨_, rfl, Nat.zero_le _, h0⟩, ?_⟩
  rintro i m a H ⟨rfl, hi, p⟩
  have ok := hG i a H hi p
  by_cases hlt : i < n
  · exact .inr ⟨w.goes i H hlt ok, Pv (i + 1), fun a' H' p' => ⟨n - (i + 1), by omega, rfl, hlt, p'⟩, fun x H1 y => hs i x a H H1 hlt p (w.yields i H x H1 hlt ok y)⟩
  · have e : i = n := by omega
    subst e
    exact .inl ⟨w.stops H ok, hd a H p⟩
end
section
variable {g : TG} {tt : TT} {te : TE} {vs : List Nat} {σ0 : L2.St} {yl : Unit → V → Hp → (Unit → Hp → Prop) → Prop} {dn : Unit → Hp → Prop} {H0 : Hp} {J : It} {n : Nat} {Gd : Hp → Prop} {Y : Nat → Hp → V → Hp → Prop}
end
end FF
namespace FF
open PySem PySem.Spec PyProof.Rows L2
variable [LT]
/-! ### ties by layers -/
def layerOf (ts : List (Int × Int)) (ws : List V) (f : Int) : List (Int × Int) := ((ts.zip ws).filter fun p => decide (p.2 = V.int f)).map Prod.fst
theorem layerOf_snoc {ts : List (Int × Int)} {ws : List V} (h : ts.length = ws.length) (t : Int × Int) (x : V) (f : Int) :
    layerOf (ts ++ [t]) (ws ++ [x]) f = layerOf ts ws f ++ if x = V.int f then [t] else [] := by
  unfold layerOf
  rw [List.zip_append h, List.filter_append, List.map_append]
  congr 1
  show (List.filter (fun p => decide (p.2 = V.int f)) [(t, x)]).map Prod.fst = _
  by_cases e : x = V.int f
  · rw [List.filter_cons_of_pos (p := fun p : (Int × Int) × V => decide (p.2 = V.int f)) (a := (t, x)) (decide_eq_true e), if_pos e]
    rfl
  · rw [List.filter_cons_of_neg (by rw [decide_eq_false e]; decide), if_neg e]
    rfl
theorem layerOf_ok {n : Int} {ts : List (Int × Int)} (ok : TOk n ts) (ws : List V) (f : Int) : TOk n (layerOf ts ws f) := fun t ht => by
  unfold layerOf at ht
  obtain ⟨⟨u, x⟩, hp, rfl⟩ := List.mem_map.mp ht
  exact ok _ (List.of_mem_zip (List.mem_filter.mp hp).1).1
theorem layerOf_none {ts : List (Int × Int)} {ws : List V} {f : Int} (h : ∀ x ∈ ws, x ≠ V.int f) : layerOf ts ws f = [] := by
  unfold layerOf
  rw [List.filter_eq_nil_iff.mpr fun p hp => ?_]
  · rfl
  · obtain ⟨u, x⟩ := p
    rw [decide_eq_false (h x (List.of_mem_zip hp).2)]
    decide
/-! ### first fit -/
def freeB (ts : List (Int × Int)) (ws : List V) (t : Int × Int) (f : Int) : Bool := ringlessF (fun x => x) (layerOf ts ws f ++ [t])
inductive FFat (k : Int) (ts : List (Int × Int)) (ws : List V) (t : Int × Int) : V → Prop where
  | out : (∀ f, 0 ≤ f → f < k → freeB ts ws t f = false) → FFat k ts ws t .non
  | at_ {f : Int} : 0 ≤ f → f < k → freeB ts ws t f = true → (∀ g, 0 ≤ g → g < f → freeB ts ws t g = false) → FFat k ts ws t (.int f)
structure FF (k : Int) (ts : List (Int × Int)) (ws : List V) : Prop where
  len : ws.length = ts.length
  each : ∀ i t x, ts[i]? = some t → ws[i]? = some x → FFat k (ts.take i) (ws.take i) t x
theorem FF.nil {k : Int} : FF k [] [] := ⟨rfl, fun i t x h => by simp at h⟩
theorem FF.snoc {k : Int} {ts : List (Int × Int)} {ws : List V} {t : Int × Int} {x : V} (h : FF k ts ws) (hx : FFat k ts ws t x) : FF k (ts ++ [t]) (ws ++ [x]) := by
  have hl := h.len
  refine ⟨by rw [List.length_append, List.length_append, hl]; rfl, fun i u y hu hy => ?_⟩
  by_cases e : i < ts.length
  · rw [List.getElem?_append_left e] at hu
    rw [List.getElem?_append_left (by omega)] at hy
    rw [List.take_append_of_le_length (by omega), List.take_append_of_le_length (by omega)]
    exact h.each i u y hu hy
  · have hi : i = ts.length := by
      have := (List.getElem?_eq_some_iff.mp hu).1
      rw [List.length_append] at this
      have : i < ts.length + 1 := this
      omega
    subst hi
    rw [List.getElem?_append_right (Nat.le_refl _), Nat.sub_self] at hu
    rw [← hl, List.getElem?_append_right (Nat.le_refl _), Nat.sub_self] at hy
    cases hu
    cases hy
    rw [List.take_left, ← hl, List.take_left]
    exact hx
theorem FF.low {k : Int} {ts : List (Int × Int)} {ws : List V} (h : FF k ts ws) (hne : ∀ t ∈ ts, t.1 ≠ t.2) : ∀ (i : Nat) (f : Int), ws[i]? = some (V.int f) → f ≤ (i : Int) := by
  intro i
  induction i using Nat.strongRecOn with
  | _ i ih =>
    intro f hf
    have hi := (List.getElem?_eq_some_iff.mp hf).1
    have hit : i < ts.length := by rw [← h.len]; exact hi
    have ht := List.getElem?_eq_getElem hit
    have hx := h.each i _ _ ht hf
    by_cases c : f ≤ (i : Int)
    · exact c
    · cases hx with
      | at_ h0 h1 h2 h3 =>
        have z := h3 (i : Int) (by omega) (by omega)
        unfold freeB at z
        rw [layerOf_none] at z
        · have hn := hne _ (List.getElem_mem hit)
          show f ≤ _
          rw [List.nil_append] at z
          exact absurd z (by
            show ¬ (if _ = _ then false else true) = false
            rw [if_neg hn]
            decide)
        · intro x hx e
          obtain ⟨j, hj⟩ := List.getElem?_of_mem hx
          have hjl := (List.getElem?_eq_some_iff.mp hj).1
          rw [List.length_take] at hjl
          rw [List.getElem?_take_of_lt (by omega)] at hj
          rw [e] at hj
          have := ih j (by omega) _ hj
          omega
/-- forest i is empty when the i-th tie comes -/
theorem FF.empty {k : Int} {ts : List (Int × Int)} {ws : List V} (h : FF k ts ws) (hne : ∀ t ∈ ts, t.1 ≠ t.2) {i : Nat} {t : Int × Int} (ht : ts[i]? = some t) : freeB (ts.take i) (ws.take i) t (i : Int) = true := by
  have hi := (List.getElem?_eq_some_iff.mp ht).1
  unfold freeB
  rw [layerOf_none]
  · rw [List.nil_append]
    show (if _ = _ then false else true) = true
    rw [if_neg (hne _ (List.mem_of_getElem? ht))]
  · intro x hx e
    obtain ⟨j, hj⟩ := List.getElem?_of_mem hx
    have hjl := (List.getElem?_eq_some_iff.mp hj).1
    rw [List.length_take] at hjl
    rw [List.getElem?_take_of_lt (by omega), e] at hj
    have := h.low hne j _ hj
    omega
theorem first_of {p : Int → Bool} {f m : Int} (h0 : 0 ≤ f) (h1 : f < m) (hp : p f = true) (hq : ∀ g, 0 ≤ g → g < f → p g = false) : ∃ r, (upTo m).filter p = f :: r := by
  have e : upTo m = upTo f ++ (f :: (upTo m).drop (f.toNat + 1)) := by
    have hf : (upTo m)[f.toNat]? = some f := by
      unfold upTo
      rw [List.getElem?_map, List.getElem?_range (by omega)]
      show some ((f.toNat : Nat) : Int) = some f
      rw [show ((f.toNat : Nat) : Int) = f by omega]
    have ht : (upTo m).take f.toNat = upTo f := by
      unfold upTo
      rw [← List.map_take, List.take_range, Nat.min_eq_left (by omega)]
    have z := take_rest hf
    rw [ht, List.append_assoc] at z
    exact z
  rw [e, List.filter_append, List.filter_eq_nil_iff.mpr fun g hg => by rw [hq g (mem_upTo hg).1 (mem_upTo hg).2]; decide, List.filter_cons_of_pos hp]
  exact ⟨_, rfl⟩
theorem FF.head {k : Int} {ts : List (Int × Int)} {ws : List V} (h : FF k ts ws) (hne : ∀ t ∈ ts, t.1 ≠ t.2) {i : Nat} {t : Int × Int} {x : V} (ht : ts[i]? = some t) (hx : ws[i]? = some x) :
    ∃ r, (((upTo (min k ((i : Int) + 1))).filter (freeB (ts.take i) (ws.take i) t)).map V.int) ++ [V.non] = x :: r := by
  have c := h.each i t x ht hx
  cases c with
  | out z =>
    rw [List.filter_eq_nil_iff.mpr fun g hg => by rw [z g (mem_upTo hg).1 (by have := (mem_upTo hg).2; omega)]; decide]
    exact ⟨[], rfl⟩
  | @at_ f h0 h1 h2 h3 =>
    have l := h.low hne i f hx
    obtain ⟨r, e⟩ := first_of (m := min k ((i : Int) + 1)) h0 (by omega) h2 h3
    rw [e]
    exact ⟨_, rfl⟩
theorem FF.ints {k : Int} {ts : List (Int × Int)} {ws : List V} (h : FF k ts ws) (hne : ∀ t ∈ ts, t.1 ≠ t.2) (hk : (ts.length : Int) ≤ k) : ∃ ns : List Int, ws = ns.map V.int := by
  refine ⟨ws.map fun v => match v with | .int i => i | _ => 0, ?_⟩
  rw [List.map_map]
  conv => lhs; rw [← List.map_id ws]
  refine List.map_congr_left fun x hx => ?_
  obtain ⟨i, hi⟩ := List.getElem?_of_mem hx
  have hil := (List.getElem?_eq_some_iff.mp hi).1
  have hit : i < ts.length := by rw [← h.len]; exact hil
  have ht := List.getElem?_eq_getElem hit
  have c := h.each i _ x ht hi
  cases c with
  | out z =>
    have e := h.empty hne ht
    rw [z _ (by omega) (by omega)] at e
    cases e
  | at_ => rfl
/-- numbers of forests, or none -/
def IsO (x : V) : Prop := x = .non ∨ ∃ i, x = .int i
theorem FF.isO {k : Int} {ts : List (Int × Int)} {ws : List V} (h : FF k ts ws) : ∀ x ∈ ws, IsO x := fun x hx => by
  obtain ⟨i, hi⟩ := List.getElem?_of_mem hx
  have hil := (List.getElem?_eq_some_iff.mp hi).1
  have hit : i < ts.length := by rw [← h.len]; exact hil
  have c := h.each i _ x (List.getElem?_eq_getElem hit) hi
  cases c with
  | out => exact .inl rfl
  | at_ => exact .inr ⟨_, rfl⟩
theorem IsO.scal {x : V} (h : IsO x) (i : Int) : scal x (.int i) = true := by
  rcases h with rfl | ⟨j, rfl⟩ <;> rfl
/-! ### several forests of leaders -/
theorem Ke.and {S : Addr → Prop} {H H1 H2 : Hp} (a : Ke H H1) (b : Kx S H1 H2) (h : ∀ x, S x → H x = none) : Ke H H2 := by
  refine ⟨fun c o e n q => b.at_ c o (a.at_ c o e n q) n fun z => ?_, fun c t => b.tab c (a.tab c t), fun c e => a.dom c (b.dom c e), fun c ps l q e => b.lam c ps l (fun z => ?_) (a.lam c ps l (fun z => z) e)⟩
  · rw [h c z] at e
    cases e
  · rw [h c z] at e
    cases e
theorem freeB_eq {ts : List (Int × Int)} {ws : List V} {t : Int × Int} {f : Int} (h : ringlessF (fun x => x) (layerOf ts ws f) = true) : freeB ts ws t f = !decide (foldR (fun x => x) (layerOf ts ws f) t.1 = foldR (fun x => x) (layerOf ts ws f) t.2) := ringlessF_more h t
end FF
namespace FF
open PySem PySem.Spec PyProof.Rows L2
variable [LT]
/-! ### the numbers of the ties of a forest -/
def numsFrom (f : Int) : Nat → List V → List Int
  | _, [] => []
  | i, x :: r => (if x = V.int f then [(i : Int)] else []) ++ numsFrom f (i + 1) r
theorem nums_snoc (f : Int) : ∀ (i : Nat) (ws : List V) (x : V), numsFrom f i (ws ++ [x]) = numsFrom f i ws ++ if x = V.int f then [((i + ws.length : Nat) : Int)] else []
  | i, [], x => by
    show (if x = V.int f then [(i : Int)] else []) ++ [] = [] ++ _
    rw [List.append_nil, List.nil_append]
    rfl
  | i, y :: ws, x => by
    show _ ++ numsFrom f (i + 1) (ws ++ [x]) = _
    rw [nums_snoc f (i + 1) ws x, ← List.append_assoc]
    show _ = ((if y = V.int f then [(i : Int)] else []) ++ numsFrom f (i + 1) ws) ++ _
    rw [List.length_cons, show i + 1 + ws.length = i + (ws.length + 1) by omega]
theorem nums_bd (f : Int) : ∀ (i : Nat) (ws : List V), ∀ m ∈ numsFrom f i ws, (i : Int) ≤ m ∧ m < ((i + ws.length : Nat) : Int)
  | i, [], m, h => nomatch h
  | i, y :: ws, m, h => by
    rcases List.mem_append.mp h with h | h
    · by_cases e : y = V.int f
      · rw [if_pos e] at h
        rw [List.mem_singleton.mp h, List.length_cons]
        omega
      · rw [if_neg e] at h
        cases h
    · have := nums_bd f (i + 1) ws m h
      rw [List.length_cons]
      omega
theorem nums_length (f : Int) : ∀ (i : Nat) (ws : List V), (numsFrom f i ws).length ≤ ws.length
  | _, [] => Nat.le_refl _
  | i, y :: ws => by
    have := nums_length f (i + 1) ws
    show ((if y = V.int f then [(i : Int)] else []) ++ numsFrom f (i + 1) ws).length ≤ ws.length + 1
    rw [List.length_append]
    split
    · show 1 + _ ≤ _
      omega
    · show 0 + _ ≤ _
      omega
theorem pick_nums (f : Int) : ∀ (pre ts : List (Int × Int)) (ws : List V), ts.length = ws.length → pick (pre ++ ts) (numsFrom f pre.length ws) = layerOf ts ws f
  | pre, [], [], _ => rfl
  | pre, t :: ts, x :: ws, h => by
    have ih := pick_nums f (pre ++ [t]) ts ws (by simpa using h)
    rw [List.append_assoc, List.length_append] at ih
    show pick (pre ++ t :: ts) ((if x = V.int f then [(pre.length : Int)] else []) ++ numsFrom f (pre.length + 1) ws) = _
    rw [pick_append]
    have e1 : pick (pre ++ t :: ts) (numsFrom f (pre.length + 1) ws) = layerOf ts ws f := ih
    rw [e1]
    have e2 : layerOf (t :: ts) (x :: ws) f = (if x = V.int f then [t] else []) ++ layerOf ts ws f := by
      unfold layerOf
      rw [List.zip_cons_cons]
      by_cases e : x = V.int f
      · rw [List.filter_cons_of_pos (p := fun p : (Int × Int) × V => decide (p.2 = V.int f)) (a := (t, x)) (decide_eq_true e), if_pos e]
        rfl
      · rw [List.filter_cons_of_neg (p := fun p : (Int × Int) × V => decide (p.2 = V.int f)) (a := (t, x)) (by rw [decide_eq_false e]; decide), if_neg e]
        rfl
    rw [e2]
    congr 1
    by_cases e : x = V.int f
    · rw [if_pos e, if_pos e]
      show [(pre ++ t :: ts).getD ((pre.length : Int)).toNat (0, 0)] = [t]
      rw [show ((pre.length : Int)).toNat = pre.length by omega, List.getD_eq_getElem?_getD, List.getElem?_append_right (Nat.le_refl _), Nat.sub_self]
      rfl
    · rw [if_neg e, if_neg e]
      rfl
/-! ### ties by forest, in a dict -/
end FF
namespace FF
open PySem PySem.Spec PyProof.Rows L2
variable [LT]
/-! ### layings -/
def okE (k : Int) (x : V) : Bool := match x with
  | .non => true
  | v => isNum v 0 (k - 1)
def treeB (ts : List (Int × Int)) (ws : List V) (x : V) : Bool := match x with
  | .int f => ringlessF (fun x => x) (layerOf ts ws f)
  | _ => true
def layO (ts : List (Int × Int)) (k : Int) : Option (List V) → Bool
  | none => false
  | some ws => (decide (ws.length = ts.length) && ws.all (okE k)) && ws.all (treeB ts ws)
theorem layO_good {ts : List (Int × Int)} {k : Int} {ws : List V} (hl : ws.length = ts.length) (ho : ∀ x ∈ ws, okE k x = true) (h : ∀ f, V.int f ∈ ws → ringlessF (fun x => x) (layerOf ts ws f) = true) : layO ts k (some ws) = true := by
  show ((decide (ws.length = ts.length) && ws.all (okE k)) && ws.all (treeB ts ws)) = true
  rw [decide_eq_true hl, List.all_eq_true.mpr ho, List.all_eq_true.mpr fun x hx => ?_]
  · rfl
  · cases x with
    | int f => exact h f hx
    | _ => rfl
end FF
namespace FF
open PySem PySem.Spec PyProof.Rows L2
variable [LT]
/-! ### what first fit tells is a laying -/
theorem FF.forest {k : Int} {ts : List (Int × Int)} {ws : List V} (h : FF k ts ws) (f : Int) : ringlessF (fun x => x) (layerOf ts ws f) = true := by
  have hl := h.len
  have z : ∀ i, i ≤ ts.length → ringlessF (fun x => x) (layerOf (ts.take i) (ws.take i) f) = true := by
    intro i
    induction i with
    | zero => intro _; rfl
    | succ i ih =>
      intro hi
      have h1 : ts[i]? = some ts[i] := List.getElem?_eq_getElem (by omega)
      have h2 : ws[i]? = some ws[i] := List.getElem?_eq_getElem (by omega)
      have c := h.each i _ _ h1 h2
      rw [take_next h1, take_next h2, layerOf_snoc (by rw [List.length_take, List.length_take]; omega)]
      by_cases e : ws[i] = V.int f
      · rw [if_pos e]
        rw [e] at c
        cases c with
        | at_ _ _ h3 _ => exact h3
      · rw [if_neg e, List.append_nil]
        exact ih (by omega)
  have := z ts.length (Nat.le_refl _)
  rw [List.take_length, ← hl, List.take_length] at this
  exact this
theorem okE_int {k f : Int} (h0 : 0 ≤ f) (h1 : f < k) : okE k (.int f) = true := by
  show (decide (0 ≤ f) && decide (f ≤ k - 1)) = true
  rw [decide_eq_true h0, decide_eq_true (by omega)]
  rfl
theorem FF.lay {k : Int} {ts : List (Int × Int)} {ws : List V} (h : FF k ts ws) : layO ts k (some ws) = true :=
  layO_good h.len (fun x hx => by
    obtain ⟨i, hi⟩ := List.getElem?_of_mem hx
    have hil := (List.getElem?_eq_some_iff.mp hi).1
    have hit : i < ts.length := by rw [← h.len]; exact hil
    have c := h.each i _ x (List.getElem?_eq_getElem hit) hi
    cases c with
    | out => rfl
    | at_ h0 h1 => exact okE_int h0 h1) fun f _ => h.forest f
theorem IsO.ty {H : Hp} {x : V} (h : IsO x) : ∃ n, TyN H x n := by
  rcases h with rfl | ⟨i, rfl⟩
  · exact ⟨_, .non⟩
  · exact ⟨_, .int i⟩
end FF
namespace FF
open PySem PySem.Spec PyProof.Rows L2
variable [LT]
/-! ### a tuple against the empty tuple -/
section
variable {X : Cx} {K : PySem.W.Frag}
def rEq0 (K : PySem.W.Frag) : R2 := fun x y H Q => ∃ a b xs, x = .ref a ∧ y = .ref b ∧ SqT K H a xs ∧ SqT K H b [] ∧ Q (.bl xs.isEmpty) H
theorem op_eq0 (hu : X.A.units + 64 < cLine) (h : X.K = K := by rfl) : OpR X (compareOp .Eq) (rEq0 K) := by
  subst h
  intro pins s σ H x y v u Q I rx ry hq
  obtain ⟨a, b, xs, rfl, rfl, ha, hb, q⟩ := hq
  cases (show v = Value.ref a from rx)
  cases (show u = Value.ref b from ry)
  obtain ⟨its, v1, t1, _⟩ := I.tuple ha
  obtain ⟨its2, v2, t2, _⟩ := I.tuple hb
  have e2 : its2 = [] := by cases v2; rfl
  subst e2
  refine PySem.SeqAt.eq_tupleAt (e := fun _ => true) (show s.heap.IsTuple a its.toArray from t1) (show s.heap.IsTuple b [].toArray from t2) (by omega) (fun j h1 h2 => absurd h2 (by simp)) ?_
  have e : ((List.range (min its.toArray.size ([] : List Value).toArray.size)).all (fun _ => true) && its.toArray.size == ([] : List Value).toArray.size) = xs.isEmpty := by
    cases v1 with
    | nil => rfl
    | cons _ _ => simp
  rw [e]
  exact ⟨.bl xs.isEmpty, H, I, rfl, q⟩
end
/-! ### things of any kind, kept -/
theorem TyN.ke {H H' : Hp} {v : V} {n : String} (h : TyN H v n) (k : Ke H H') : TyN H' v n := by
  cases h with
  | non => exact .non
  | bl b => exact .bl b
  | int i => exact .int i
  | str z => exact .str z
  | lst h => exact .lst (k.lst h)
  | tup h => exact .tup (k.tup h)
  | dic h => exact .dic (k.at_ _ _ h (fun _ z => nomatch z) fun z => z)
theorem TyN.new {H : Hp} {p : Addr} {o : HO} {v : V} {n : String} (h : TyN H v n) (k : H p = none) : TyN (upd H p o) v n := h.ke (Ke.new k)
theorem TyN.put {H : Hp} {p : Addr} {xs ys : List V} {v : V} {n : String} (h : TyN H v n) (k : H p = some (.lst xs)) : TyN (upd H p (.lst ys)) v n := by
  cases h with
  | non => exact .non
  | bl b => exact .bl b
  | int i => exact .int i
  | str z => exact .str z
  | @lst a zs h =>
    by_cases e : a = p
    · exact .lst (xs := ys) (by rw [e]; exact upd_same)
    · exact .lst (by rw [upd_ne e]; exact h)
  | tup h => exact .tup (by rw [upd_ne (ne_of h k (fun z => nomatch z))]; exact h)
  | dic h => exact .dic (by rw [upd_ne (ne_of h k (fun z => nomatch z))]; exact h)
theorem TyN.dk {H H' : Hp} {p : Addr} {v : V} {n : String} (h : TyN H v n) (k : Dk p H H') (d : Deck H p) : TyN H' v n := by
  obtain ⟨ds, hp, _⟩ := d
  cases h with
  | non => exact .non
  | bl b => exact .bl b
  | int i => exact .int i
  | str z => exact .str z
  | @lst a zs h =>
    by_cases e : a = p
    · obtain ⟨ds', hp', _⟩ := k.d
      exact .lst (xs := ds'.map V.int) (by rw [e]; exact hp')
    · exact .lst (k.lst h e)
  | tup h => exact .tup (k.k.tup h (ne_of h hp (fun z => nomatch z)))
  | dic h => exact .dic (k.k.at_ _ _ h (fun _ z => nomatch z) (ne_of h hp (fun z => nomatch z)))
theorem Tpl.mono {H H' : Hp} {v : V} {o : Option (List V)} (h : Tpl H v o) (k : ∀ q xs, H q = some (.tup xs) → H' q = some (.tup xs)) (y : ∀ v n, TyN H v n → TyN H' v n) : Tpl H' v o := by
  cases h with
  | yes h hx => exact .yes (k _ _ h) fun x hm => (hx x hm).elim fun n hn => ⟨n, y _ _ hn⟩
  | no h hn => exact .no (y _ _ h) hn
theorem Tpl.ke {H H' : Hp} {v : V} {o : Option (List V)} (h : Tpl H v o) (k : Ke H H') : Tpl H' v o := h.mono (fun _ _ => k.tup) fun _ _ z => z.ke k
theorem Tpl.ty {H : Hp} {v : V} {o : Option (List V)} (h : Tpl H v o) : ∃ n, TyN H v n := by
  cases h with
  | yes h _ => exact ⟨_, .tup h⟩
  | no h _ => exact ⟨_, h⟩
end FF
namespace FF
open PySem PySem.Spec PyProof.Rows L2
variable [LT]
/-! ### t[::-1] of a tuple -/
section
variable {prog : Program} {w : World} {A : Around} {E : Value → Shared → Prop} {s : Shared}
end
section
variable {X : Cx}
end
end FF
namespace FF
open PySem PySem.Spec PyProof.Rows L2
variable [LT]
/-! ### data: shapes and equality -/
structure Sh (k : Nat) (d : PyData) : Prop where
  lay : d.canLay0 = true
  dep : d.depth ≤ k
theorem Sh.shaped {k : Nat} {d : PyData} (h : Sh k d) (hk : k ≤ 64 := by decide) : SeqAt.shaped d = true := by
  unfold SeqAt.shaped
  rw [h.lay, decide_eq_true (Nat.le_trans h.dep hk)]
  rfl
theorem Sh.int {i : Int} : Sh 0 (.int i) := ⟨rfl, Nat.le_refl _⟩
theorem Sh.none : Sh 0 .none := ⟨rfl, Nat.le_refl _⟩
theorem Sh.bool {b : Bool} : Sh 0 (.bool b) := ⟨rfl, Nat.le_refl _⟩
theorem sh_all {k : Nat} : ∀ {ds : List PyData}, (∀ d ∈ ds, Sh k d) → PyData.canLayAll0 ds = true ∧ PyData.depthAll ds ≤ k
  | [], _ => ⟨rfl, Nat.zero_le _⟩
  | d :: r, h => by
    obtain ⟨h1, h2⟩ := sh_all (ds := r) fun x hx => h x (List.mem_cons_of_mem _ hx)
    have h3 := h d List.mem_cons_self
    refine ⟨?_, ?_⟩
    · show (d.canLay0 && PyData.canLayAll0 r) = true
      rw [h3.lay, h1]
      rfl
    · show max d.depth (PyData.depthAll r) ≤ k
      exact Nat.max_le.mpr ⟨h3.dep, h2⟩
theorem Sh.tup {k : Nat} {ds : List PyData} (h : ∀ d ∈ ds, Sh k d) : Sh (k + 1) (.tuple ds) := ⟨(sh_all h).1, Nat.succ_le_succ (sh_all h).2⟩
theorem Sh.lst {k : Nat} {ds : List PyData} (h : ∀ d ∈ ds, Sh k d) : Sh (k + 1) (.list ds) := ⟨(sh_all h).1, Nat.succ_le_succ (sh_all h).2⟩
def dO (x : V) : PyData := match x with
  | .int i => .int i
  | _ => .none
theorem dp_O {K : PySem.W.Frag} {H : Hp} : ∀ {ws : List V}, (∀ x ∈ ws, IsO x) → DpAll K H ws (ws.map dO)
  | [], _ => .nil
  | x :: r, h => by
    refine .cons ?_ (dp_O fun y hy => h y (List.mem_cons_of_mem _ hy))
    rcases h x List.mem_cons_self with rfl | ⟨i, rfl⟩
    · exact .non
    · exact .int i
theorem sh_O {x : V} : Sh 0 (dO x) := by
  cases x with
  | int i => exact .int
  | _ => exact .none
theorem shaped_tints (ls : List Int) : SeqAt.shaped (.tuple (ls.map PyData.int)) = true := (Sh.tup (k := 0) fun d hd => by
  obtain ⟨x, _, rfl⟩ := List.mem_map.mp hd
  exact Sh.int).shaped
end FF
namespace FF
open PySem PySem.Spec PyProof.Rows L2
variable [LT]
/-! ### pieces -/
theorem upTo_mem {n x : Int} : x ∈ upTo n ↔ 0 ≤ x ∧ x < n := by
  refine ⟨mem_upTo, fun ⟨h0, h1⟩ => ?_⟩
  unfold upTo
  exact List.mem_map.mpr ⟨x.toNat, List.mem_range.mpr (by omega), by omega⟩
def least (g : Int → Int) (x : Int) : Bool := (upTo x).all fun y => !decide (g y = g x)
def piece (g : Int → Int) (n x : Int) : List Int := (upTo n).filter fun y => decide (g y = g x)
/-- rising lists with the same members are one -/
theorem up_same : ∀ {l m : List Int}, l.Pairwise (· < ·) → m.Pairwise (· < ·) → (∀ x, x ∈ l ↔ x ∈ m) → l = m
  | [], [], _, _, _ => rfl
  | [], b :: s, _, _, h => by have := (h b).mpr List.mem_cons_self; cases this
  | a :: r, [], _, _, h => by have := (h a).mp List.mem_cons_self; cases this
  | a :: r, b :: s, hl, hm, h => by
    obtain ⟨l1, l2⟩ := List.pairwise_cons.mp hl
    obtain ⟨m1, m2⟩ := List.pairwise_cons.mp hm
    have e : a = b := by
      have h1 := (h a).mp List.mem_cons_self
      have h2 := (h b).mpr List.mem_cons_self
      rcases List.mem_cons.mp h1 with z | z
      · exact z
      · rcases List.mem_cons.mp h2 with y | y
        · exact y.symm
        · have := l1 b y
          have := m1 a z
          omega
    subst e
    congr 1
    refine up_same l2 m2 fun x => ⟨fun hx => ?_, fun hx => ?_⟩
    · rcases List.mem_cons.mp ((h x).mp (List.mem_cons_of_mem _ hx)) with z | z
      · have := l1 x hx
        omega
      · exact z
    · rcases List.mem_cons.mp ((h x).mpr (List.mem_cons_of_mem _ hx)) with z | z
      · have := m1 x hx
        omega
      · exact z
theorem Ker.heads {n : Int} : ∀ {ts : List (Int × Int)} {r : Int → Int} {hs : List Int}, Ker n r hs → TOk n ts → Ker n (foldR r ts) (headsF hs ts)
  | [], _, _, h, _ => h
  | t :: ts, r, hs, h, ok => Ker.heads (r := rstep r t) (hs := hstep hs t) (h.step (ok t List.mem_cons_self)) fun x hx => ok x (List.mem_cons_of_mem _ hx)
/-- tuples of ints -/
def Lots (H : Hp) (rs : List V) (pss : List (List Int)) : Prop := Paired (fun (r : V) (ls : List Int) => ∃ q, r = .ref q ∧ H q = some (.tup (ls.map V.int))) rs pss
theorem Lots.mono {H H' : Hp} {rs : List V} {pss : List (List Int)} (h : Lots H rs pss) (k : ∀ q xs, H q = some (.tup xs) → H' q = some (.tup xs)) : Lots H' rs pss := L2.Paired.mapP h fun _ _ ⟨q, e, z⟩ => ⟨q, e, k q _ z⟩
theorem Lots.ke {H H' : Hp} {rs : List V} {pss : List (List Int)} (h : Lots H rs pss) (k : Ke H H') : Lots H' rs pss := h.mono fun _ _ => k.tup
theorem Lots.new {H : Hp} {p : Addr} {o : HO} {rs : List V} {pss : List (List Int)} (h : Lots H rs pss) (k : H p = none) : Lots (upd H p o) rs pss := h.mono fun _ _ => tup_new k
theorem Lots.put {H : Hp} {p : Addr} {o : HO} {ys : List V} {rs : List V} {pss : List (List Int)} (h : Lots H rs pss) (k : H p = some (.lst ys)) : Lots (upd H p o) rs pss := h.mono fun q xs e => by rw [upd_ne (ne_of e k (fun z => nomatch z))]; exact e
theorem Lots.length {H : Hp} {rs : List V} {pss : List (List Int)} (h : Lots H rs pss) : rs.length = pss.length := Paired.length h
theorem Lots.append {H : Hp} : ∀ {rs qs : List V} {ps us : List (List Int)}, Lots H rs ps → Lots H qs us → Lots H (rs ++ qs) (ps ++ us)
  | _, _, _, _, .nil, b => b
  | _, _, _, _, .cons r t, b => .cons r (Lots.append t b)
theorem Lots.one {H : Hp} {q : Addr} {ls : List Int} (h : H q = some (.tup (ls.map V.int))) : Lots H [.ref q] [ls] := .cons ⟨q, rfl, h⟩ .nil
theorem Lots.get {H : Hp} : ∀ {rs : List V} {ps : List (List Int)} {i : Nat} {r : V}, Lots H rs ps → rs[i]? = some r → ∃ ls q, ps[i]? = some ls ∧ r = .ref q ∧ H q = some (.tup (ls.map V.int))
  | _, _, _, _, .nil, e => by simp at e
  | _, _, 0, _, .cons (b := t) ⟨q, e1, e2⟩ _, e => by simp at e; subst e; exact ⟨t, q, rfl, e1, e2⟩
  | _, _, i + 1, r, .cons _ t, e => by
    obtain ⟨u, q, h1, h2, h3⟩ := Lots.get (i := i) (r := r) t (by simpa using e)
    exact ⟨u, q, by simpa using h1, h2, h3⟩
theorem Lots.dp {K : PySem.W.Frag} {H : Hp} : ∀ {rs : List V} {ps : List (List Int)}, Lots H rs ps → DpAll K H rs (ps.map fun l => .tuple (l.map PyData.int))
  | _, _, .nil => .nil
  | _, _, .cons ⟨q, e, h⟩ t => by
    subst e
    exact .cons (.tup (sqT_of h) (dp_ints _)) (Lots.dp t)
theorem shaped_lots (ps : List (List Int)) : SeqAt.shaped (.tuple (ps.map fun l => .tuple (l.map PyData.int))) = true := (Sh.tup (k := 1) fun d hd => by
  obtain ⟨l, _, rfl⟩ := List.mem_map.mp hd
  exact Sh.tup fun d hd => by
    obtain ⟨x, _, rfl⟩ := List.mem_map.mp hd
    exact Sh.int).shaped
theorem eqv_lots (ps : List (List Int)) : PyData.eqv (.tuple (ps.map fun l => .tuple (l.map PyData.int))) (.tuple (ps.map fun l => .tuple (l.map PyData.int))) = true :=
  SeqAt.eqv_refl _ (SeqAt.canLay_of_shaped (shaped_lots ps))
end FF
namespace FF
open PySem PySem.Spec PyProof.Rows L2
variable [LT]
/-! ### max and set of tuples of ints -/
section
variable {X : Cx} {K : PySem.W.Frag}
def rSetT (K : PySem.W.Frag) (w : World) : List V → Hp → VK → Prop := fun xs H Q => ∃ (l : Addr) (ns : List Int), xs = [V.ref l] ∧ SqT K H l (ns.map V.int) ∧ ns.length ≤ 1000 ∧
  ∀ (p : Addr) (c : Nat), H p = none → c ≤ ns.length → Q (.ref p) (upd H p (SetO w p (fun j => decide (j ∈ ns)) c))
theorem cr_setT (hc : X.calm = true) : CallR X (.type "set") (rSetT X.K X.w) := by
  intro pins s σ H xs us Q I r h
  obtain ⟨l, ns, rfl, hl, hb, q⟩ := h
  rw [Vals.ref1 r]
  obtain ⟨its, rv, pl, hz⟩ := I.tuple hl
  refine call_set_tupI (w := X.w) ns (I.ok.hd hc) (show s.heap.IsTuple l its.toArray from pl) (by simpa using RZ.intsAre_vals rv) (by unfold scanBound; omega) fun h' tk c R hcn k => ?_
  exact ⟨.ref s.heap.objs.size, _, I.laid (t' := tk) k (Nat.le_refl _) (setO_new R), rfl, q _ c (I.hok.fresh (Nat.le_refl _)) hcn⟩
end
end FF
namespace FF
open PySem PySem.Spec PyProof.Rows L2
variable [LT]
/-! ### ties between parts -/
def between (ps : List Int) (ts : List (Int × Int)) : Nat := (ts.filter fun t => !decide (hat ps t.1 = hat ps t.2)).length
/-! ### ties between and within are all -/
theorem inside_cons (ls : List Int) (t : Int × Int) (ts : List (Int × Int)) : inside ls (t :: ts) = (if (decide (t.1 ∈ ls) && decide (t.2 ∈ ls)) = true then 1 else 0) + inside ls ts := by
  unfold inside
  rw [List.filter_cons]
  split
  · rw [List.length_cons, Nat.add_comm]
  · rw [Nat.zero_add]
theorem sum_add {α : Type} (f g : α → Int) : ∀ l : List α, (l.map fun x => f x + g x).sum = (l.map f).sum + (l.map g).sum
  | [] => rfl
  | x :: r => by
    simp only [List.map_cons, List.sum_cons]
    rw [sum_add f g r]
    omega
theorem sum_one {m : Int} (g : Int → Int) : ∀ {l : List Int}, l.Nodup → m ∈ l → (∀ x ∈ l, x ≠ m → g x = 0) → (l.map g).sum = g m
  | x :: r, nd, hm, h0 => by
    obtain ⟨n1, n2⟩ := List.nodup_cons.mp nd
    rw [List.map_cons, List.sum_cons]
    by_cases e : x = m
    · subst e
      have : (r.map g).sum = 0 := by
        have hz : ∀ y ∈ r, g y = 0 := fun y hy => h0 y (List.mem_cons_of_mem _ hy) fun c => n1 (c ▸ hy)
        clear h0 nd n2 hm n1
        induction r with
        | nil => rfl
        | cons y r ih =>
          rw [List.map_cons, List.sum_cons, hz y List.mem_cons_self, ih fun z hz' => hz z (List.mem_cons_of_mem _ hz')]
          rfl
      omega
    · rcases List.mem_cons.mp hm with c | hm
      · exact absurd c.symm e
      · rw [h0 x List.mem_cons_self e, sum_one g n2 hm fun y hy => h0 y (List.mem_cons_of_mem _ hy)]
        omega
theorem sum_zero {α : Type} (g : α → Int) : ∀ {l : List α}, (∀ x ∈ l, g x = 0) → (l.map g).sum = 0
  | [], _ => rfl
  | x :: r, h => by
    rw [List.map_cons, List.sum_cons, h x List.mem_cons_self, sum_zero g fun y hy => h y (List.mem_cons_of_mem _ hy)]
    rfl
/-- ties join: both ends have one root -/
theorem rstep_keep {r : Int → Int} {t : Int × Int} {x y : Int} (h : r x = r y) : rstep r t x = rstep r t y := by
  unfold rstep
  rw [h]
theorem foldR_keep : ∀ {ts : List (Int × Int)} {r : Int → Int} {x y : Int}, r x = r y → foldR r ts x = foldR r ts y
  | [], _, _, _, h => h
  | t :: ts, r, _, _, h => foldR_keep (ts := ts) (r := rstep r t) (rstep_keep h)
theorem foldR_tie : ∀ {ts : List (Int × Int)} {r : Int → Int} {t : Int × Int}, t ∈ ts → foldR r ts t.1 = foldR r ts t.2
  | u :: ts, r, t, h => by
    rcases List.mem_cons.mp h with rfl | h
    · refine foldR_keep (ts := ts) (r := rstep r t) ?_
      unfold rstep
      rw [if_pos rfl]
      by_cases c : r t.1 = r t.2
      · rw [if_pos c]
      · rw [if_neg c]
    · exact foldR_tie (ts := ts) (r := rstep r u) h
end FF
namespace FF
open PySem PySem.Spec PyProof.Rows L2
variable [LT]
/-! ### tuple * int, from 0 on -/
section
variable {X : Cx}
end
end FF
namespace FF
open PySem PySem.Spec PyProof.Rows L2
variable [LT]
/-! ### hung forests -/
structure Nd where
  top : Int
  dep : Int
  up : Option (Int × Int)
def Nd.vals (d : Nd) : List V := match d.up with
  | none => [.int d.top, .int d.dep, .non, .non]
  | some (y, m) => [.int d.top, .int d.dep, .int y, .int m]
abbrev Nds := List (Option Nd)
/-! ### steps from point to point -/
/-- a tie m leads from x to y -/
def Leads (ts : List (Int × Int)) (m x y : Int) : Prop := ts.getD m.toNat (0, 0) = (x, y) ∨ ts.getD m.toNat (0, 0) = (y, x)
theorem Leads.symm {ts : List (Int × Int)} {m x y : Int} (h : Leads ts m x y) : Leads ts m y x := h.elim .inr .inl
/-! ### hung in part -/
theorem Leads.rng {n : Int} {ts : List (Int × Int)} {m x y : Int} (h : Leads ts m x y) (ok : TOk n [ts.getD m.toNat (0, 0)]) : 0 ≤ y ∧ y < n := by
  have := ok _ List.mem_cons_self
  rcases h with h | h
  · rw [h] at this
    dsimp only at this
    omega
  · rw [h] at this
    dsimp only at this
    omega
end FF
namespace FF
open PySem PySem.Spec PyProof.Rows L2
variable [LT]
/-! ### ways along ties -/
inductive Way (ts : List (Int × Int)) : Int → List Int → Int → Prop where
  | nil (x : Int) : Way ts x [] x
  | cons {m x y z : Int} {l : List Int} : Leads ts m x y → Way ts y l z → Way ts x (m :: l) z
theorem Way.append {ts : List (Int × Int)} {x y z : Int} {l k : List Int} (h : Way ts x l y) (g : Way ts y k z) : Way ts x (l ++ k) z := by
  induction h with
  | nil x => exact g
  | cons hl _ ih => exact .cons hl (ih g)
theorem Way.snoc {ts : List (Int × Int)} {x y z m : Int} {l : List Int} (h : Way ts x l y) (g : Leads ts m y z) : Way ts x (l ++ [m]) z := h.append (.cons g (.nil z))
section
variable {n : Int} {ts : List (Int × Int)} {ms : List Int} {ds : Nds}
end
section
variable {n : Int} {ts : List (Int × Int)} {ms : List Int} {ds : Nds} {a0 b0 a b : Int} {xs ys : List Int}
/-- the ring that comes of it -/
structure IsRing (ts : List (Int × Int)) (ms : List Int) (a b : Int) (ns : List Int) : Prop where
  way : Way ts a ns b
  nd : ns.Nodup
  mem : ∀ m ∈ ns, m ∈ ms
end
/-! ### joined by the ties: the roots tell -/
theorem foldR_fine {g : Int → Int} : ∀ {L : List (Int × Int)} {r : Int → Int}, (∀ x y, r x = r y → g x = g y) → (∀ t ∈ L, g t.1 = g t.2) → ∀ x y, foldR r L x = foldR r L y → g x = g y
  | [], _, h, _, x, y, e => h x y e
  | t :: L, r, h, k, x, y, e => by
    refine foldR_fine (L := L) (r := rstep r t) (fun x y e => ?_) (fun u hu => k u (List.mem_cons_of_mem _ hu)) x y e
    have kt := k t List.mem_cons_self
    unfold rstep at e
    by_cases c1 : r x = r t.2
    · rw [if_pos c1] at e
      by_cases c2 : r y = r t.2
      · exact h x y (c1.trans c2.symm)
      · rw [if_neg c2] at e
        exact (h x t.2 c1).trans (kt.symm.trans (h t.1 y e))
    · rw [if_neg c1] at e
      by_cases c2 : r y = r t.2
      · rw [if_pos c2] at e
        exact (h x t.1 e).trans (kt.trans (h t.2 y c2.symm))
      · rw [if_neg c2] at e
        exact h x y e
theorem Leads.foldR {ts : List (Int × Int)} {ms : List Int} {m x y : Int} (hm : m ∈ ms) (h : Leads ts m x y) : FF.foldR (fun x => x) (pick ts ms) x = FF.foldR (fun x => x) (pick ts ms) y := by
  have hp : ts.getD m.toNat (0, 0) ∈ pick ts ms := List.mem_map.mpr ⟨m, hm, rfl⟩
  have := foldR_tie (r := fun x => x) hp
  rcases h with h | h
  · rw [h] at this
    exact this
  · rw [h] at this
    exact this.symm
section
variable {n : Int} {ts : List (Int × Int)} {ms : List Int} {ds : Nds}
end
theorem nums_at {f : Int} : ∀ {i : Nat} {ws : List V} {m : Int}, m ∈ numsFrom f i ws → ∃ k : Nat, m = ((i + k : Nat) : Int) ∧ ws[k]? = some (.int f)
  | _, [], _, h => nomatch h
  | i, x :: ws, m, h => by
    rcases List.mem_append.mp h with h | h
    · by_cases e : x = V.int f
      · rw [if_pos e] at h
        exact ⟨0, by rw [List.mem_singleton.mp h]; rfl, by rw [e]; rfl⟩
      · rw [if_neg e] at h
        cases h
    · obtain ⟨k, e1, e2⟩ := nums_at h
      exact ⟨k + 1, by rw [e1]; congr 1; omega, by simpa using e2⟩
theorem Way.inv {ts : List (Int × Int)} {x z m : Int} {l : List Int} (h : Way ts x (m :: l) z) : ∃ y, Leads ts m x y ∧ Way ts y l z := by
  cases h with
  | cons a b => exact ⟨_, a, b⟩
theorem Way.stop {ts : List (Int × Int)} {x z : Int} (h : Way ts x [] z) : x = z := by
  cases h
  rfl
theorem nub_of_nd : ∀ {ns : List Int}, ns.Nodup → (nub ns).length = ns.length := fun {ns} h => nd_eq (nub_nd ns) h fun x => mem_nub ns x
end FF
namespace FF
open PySem PySem.Spec PyProof.Rows L2
variable [LT]
/-! ### sum of a tuple of ints -/
section
variable {X : Cx} {K : PySem.W.Frag}
end
end FF
namespace FF
open PySem PySem.Spec PyProof.Rows L2
variable [LT]
/-! ### first fit in fewer forests -/
theorem FF.take {k : Int} {ts : List (Int × Int)} {ws : List V} (h : FF k ts ws) (i : Nat) : FF k (ts.take i) (ws.take i) := by
  refine ⟨by rw [List.length_take, List.length_take, h.len], fun j t x ht hx => ?_⟩
  have hj : j < i := by
    have := (List.getElem?_eq_some_iff.mp ht).1
    rw [List.length_take] at this
    omega
  rw [List.getElem?_take_of_lt hj] at ht hx
  rw [List.take_take, List.take_take, Nat.min_eq_left (by omega)]
  exact h.each j t x ht hx
theorem FF.joined {k : Int} {ts : List (Int × Int)} {ws : List V} (h : FF k ts ws) (i : Nat) (t : Int × Int) (f : Int) : (foldR (fun x => x) (layerOf (ts.take i) (ws.take i) f) t.1 = foldR (fun x => x) (layerOf (ts.take i) (ws.take i) f) t.2) ↔ freeB (ts.take i) (ws.take i) t f = false := by
  rw [freeB_eq ((h.take i).forest f)]
  constructor
  · intro e
    rw [decide_eq_true e]
    rfl
  · intro e
    by_cases c : foldR (fun x => x) (layerOf (ts.take i) (ws.take i) f) t.1 = foldR (fun x => x) (layerOf (ts.take i) (ws.take i) f) t.2
    · exact c
    · rw [decide_eq_false c] at e
      cases e
theorem layerOf_congr {f : Int} : ∀ {ts : List (Int × Int)} {ws ws' : List V}, ws.length = ws'.length → (∀ (j : Nat) x y, ws[j]? = some x → ws'[j]? = some y → (x = V.int f ↔ y = V.int f)) → layerOf ts ws f = layerOf ts ws' f
  | [], _, _, _, _ => rfl
  | t :: ts, [], [], _, _ => rfl
  | t :: ts, x :: ws, y :: ws', hl, h => by
    have ih := layerOf_congr (f := f) (ts := ts) (ws := ws) (ws' := ws') (by simpa using hl) fun j a b ha hb => h (j + 1) a b (by simpa using ha) (by simpa using hb)
    have h0 := h 0 x y rfl rfl
    unfold layerOf at ih ⊢
    rw [List.zip_cons_cons, List.zip_cons_cons, List.filter_cons, List.filter_cons]
    by_cases c : x = V.int f
    · rw [if_pos (decide_eq_true c), if_pos (decide_eq_true (h0.mp c)), List.map_cons, List.map_cons, ih]
    · rw [if_neg (by rw [decide_eq_false c]; decide), if_neg (by rw [decide_eq_false fun z => c (h0.mpr z)]; decide), ih]
theorem FF.more {k K : Int} {ts : List (Int × Int)} {ws ws' : List V} (h : FF k ts ws) (h' : FF K ts ws') (hk : k ≤ K) : ∀ (i : Nat) x y, ws[i]? = some x → ws'[i]? = some y → ∀ f, f < k → (x = V.int f ↔ y = V.int f) := by
  intro i
  induction i using Nat.strongRecOn with
  | _ i ih =>
    intro x y hx hy f hf
    have hil := (List.getElem?_eq_some_iff.mp hx).1
    have hit : i < ts.length := by rw [← h.len]; exact hil
    have ht := List.getElem?_eq_getElem hit
    have c := h.each i _ x ht hx
    have c' := h'.each i _ y ht hy
    have fr : ∀ g, g < k → freeB (ts.take i) (ws.take i) ts[i] g = freeB (ts.take i) (ws'.take i) ts[i] g := fun g hg => by
      unfold freeB
      rw [layerOf_congr (ws := ws.take i) (ws' := ws'.take i) (by rw [List.length_take, List.length_take, h.len, h'.len]) fun j a b ha hb => ?_]
      have hj : j < i := by
        have := (List.getElem?_eq_some_iff.mp ha).1
        rw [List.length_take] at this
        omega
      rw [List.getElem?_take_of_lt hj] at ha hb
      exact ih j hj a b ha hb g hg
    constructor
    · intro e
      subst e
      cases c with
      | at_ f0 f1 ff fb =>
        cases c' with
        | out z =>
          have := z f f0 (by omega)
          rw [← fr f hf, ff] at this
          cases this
        | @at_ g g0 g1 gf gb =>
          by_cases c1 : g < f
          · have := fb g g0 c1
            rw [fr g (by omega), gf] at this
            cases this
          · by_cases c2 : f < g
            · have := gb f f0 c2
              rw [← fr f hf, ff] at this
              cases this
            · rw [show g = f by omega]
    · intro e
      subst e
      cases c' with
      | at_ g0 g1 gf gb =>
        cases c with
        | out z =>
          have := z f g0 hf
          rw [fr f hf, gf] at this
          cases this
        | @at_ g f0 f1 ff fb =>
          by_cases c1 : f < g
          · have := fb f g0 c1
            rw [fr f hf, gf] at this
            cases this
          · by_cases c2 : g < f
            · have := gb g f0 c2
              rw [← fr g f1, ff] at this
              cases this
            · rw [show g = f by omega]
end FF
namespace FF
open PySem PySem.Spec PyProof.Rows L2
variable [LT]
/-! ### two points with many ties -/
def dueV (k : Int) (i : Nat) : V := if (i : Int) < k then .int i else .non
def due (k : Int) (m : Nat) : List V := (List.range m).map (dueV k)
end FF
namespace FF
open PySem PySem.Spec PyProof.Rows L2
variable [LT]
/-! ### forests in any order; ties on the way -/
theorem ringlessF_ker : ∀ (L : List (Int × Int)) {r r' : Int → Int}, (∀ x y, r x = r y ↔ r' x = r' y) → ringlessF r L = ringlessF r' L
  | [], _, _, _ => rfl
  | t :: L, r, r', h => by
    show (if r t.1 = r t.2 then false else ringlessF (rstep r t) L) = (if r' t.1 = r' t.2 then false else ringlessF (rstep r' t) L)
    by_cases c : r t.1 = r t.2
    · rw [if_pos c, if_pos ((h _ _).mp c)]
    · rw [if_neg c, if_neg (fun z => c ((h _ _).mpr z))]
      refine ringlessF_ker L fun x y => ?_
      have h1 := h x y
      have h2 := h x t.2
      have h3 := h y t.2
      have h4 := h x t.1
      have h5 := h y t.1
      have h6 := h t.1 x
      have h7 := h t.1 y
      unfold rstep
      by_cases a1 : r x = r t.2
      · rw [if_pos a1, if_pos (h2.mp a1)]
        by_cases a2 : r y = r t.2
        · rw [if_pos a2, if_pos (h3.mp a2)]
          exact ⟨fun _ => rfl, fun _ => rfl⟩
        · rw [if_neg a2, if_neg (fun z => a2 (h3.mpr z))]
          exact h7
      · rw [if_neg a1, if_neg (fun z => a1 (h2.mpr z))]
        by_cases a2 : r y = r t.2
        · rw [if_pos a2, if_pos (h3.mp a2)]
          exact h4
        · rw [if_neg a2, if_neg (fun z => a2 (h3.mpr z))]
          exact h1
theorem foldR_sub {r : Int → Int} {L L' : List (Int × Int)} (h : ∀ t ∈ L, t ∈ L') (x y : Int) (e : foldR r L x = foldR r L y) : foldR r L' x = foldR r L' y :=
  foldR_fine (fun _ _ z => foldR_keep z) (fun t ht => foldR_tie (r := r) (h t ht)) x y e
theorem ringlessF_swap (r : Int → Int) (t u : Int × Int) (L : List (Int × Int)) : ringlessF r (t :: u :: L) = ringlessF r (u :: t :: L) := by
  show (if r t.1 = r t.2 then false else if rstep r t u.1 = rstep r t u.2 then false else ringlessF (rstep (rstep r t) u) L) = (if r u.1 = r u.2 then false else if rstep r u t.1 = rstep r u t.2 then false else ringlessF (rstep (rstep r u) t) L)
  by_cases c1 : r t.1 = r t.2
  · rw [if_pos c1]
    by_cases c2 : r u.1 = r u.2
    · rw [if_pos c2]
    · rw [if_neg c2, if_pos]
      unfold rstep
      rw [c1]
  · rw [if_neg c1]
    by_cases c2 : r u.1 = r u.2
    · rw [if_pos c2, if_pos]
      unfold rstep
      rw [c2]
    · rw [if_neg c2]
      by_cases c3 : rstep r t u.1 = rstep r t u.2
      · rw [if_pos c3, if_pos]
        unfold rstep at c3 ⊢
        split at c3 <;> split at c3 <;> split <;> split <;> omega
      · rw [if_neg c3, if_neg]
        · refine ringlessF_ker L fun x y => ?_
          have k1 := foldR_sub (r := r) (L := [t, u]) (L' := [u, t]) (fun w hw => by simp at hw ⊢; exact hw.symm) x y
          have k2 := foldR_sub (r := r) (L := [u, t]) (L' := [t, u]) (fun w hw => by simp at hw ⊢; exact hw.symm) x y
          exact ⟨k1, k2⟩
        · intro z
          refine c3 ?_
          unfold rstep at z ⊢
          split at z <;> split at z <;> split <;> split <;> omega
theorem ringlessF_perm {L L' : List (Int × Int)} (h : L.Perm L') : ∀ r : Int → Int, ringlessF r L = ringlessF r L' := by
  induction h with
  | nil => exact fun _ => rfl
  | cons t _ ih =>
    intro r
    show (if r t.1 = r t.2 then false else ringlessF (rstep r t) _) = (if r t.1 = r t.2 then false else ringlessF (rstep r t) _)
    rw [ih]
  | swap t u L => exact fun r => ringlessF_swap r u t L
  | trans _ _ a b => exact fun r => (a r).trans (b r)
theorem forest_apart {r : Int → Int} {L L' : List (Int × Int)} {t : Int × Int} (hp : L.Perm (L' ++ [t])) (h : ringlessF r L = true) : foldR r L' t.1 ≠ foldR r L' t.2 := by
  rw [ringlessF_perm hp r] at h
  cases e : ringlessF r L' with
  | false =>
    rw [ringlessF_bad L' r [t] e] at h
    cases h
  | true =>
    rw [ringlessF_more e, Bool.not_eq_true'] at h
    exact of_decide_eq_false h
theorem but_perm {x : Int} {ms : List Int} (hn : ms.Nodup) (hx : x ∈ ms) : ms.Perm (but x ms ++ [x]) := by
  induction ms with
  | nil => cases hx
  | cons m ms ih =>
    obtain ⟨h1, h2⟩ := List.nodup_cons.mp hn
    by_cases c : m = x
    · subst c
      have e : but m (m :: ms) = ms := by
        unfold but
        rw [List.filter_cons_of_neg (by simp), List.filter_eq_self.mpr]
        intro y hy
        have c : ¬ y = m := fun z => h1 (by rw [← z]; exact hy)
        rw [decide_eq_false c]
        rfl
      rw [e]
      exact (List.perm_append_singleton m ms).symm
    · have hx' : x ∈ ms := (List.mem_cons.mp hx).resolve_left fun z => c z.symm
      have e : but x (m :: ms) = m :: but x ms := by
        unfold but
        rw [List.filter_cons_of_pos]
        rw [decide_eq_false c]
        rfl
      rw [e]
      exact (ih h2 hx').cons m
theorem mem_but {g x : Int} {ms : List Int} : x ∈ but g ms ↔ x ∈ ms ∧ x ≠ g := by
  unfold but
  rw [List.mem_filter, Bool.not_eq_true', decide_eq_false_iff_not]
theorem Way.joined {ts : List (Int × Int)} {ms : List Int} {x y : Int} {l : List Int} (h : Way ts x l y) (hm : ∀ m ∈ l, m ∈ ms) : foldR (fun x => x) (pick ts ms) x = foldR (fun x => x) (pick ts ms) y := by
  induction h with
  | nil x => rfl
  | cons hl _ ih => exact (hl.foldR (hm _ List.mem_cons_self)).trans (ih fun m hm' => hm m (List.mem_cons_of_mem _ hm'))
theorem Way.cut {ts : List (Int × Int)} : ∀ {l : List Int} {x z m : Int}, Way ts x l z → m ∈ l → ∃ (l1 l2 : List Int) (u v : Int), l = l1 ++ m :: l2 ∧ Way ts x l1 u ∧ Leads ts m u v ∧ Way ts v l2 z
  | k :: l, x, z, m, h, hm => by
    obtain ⟨y, h1, h2⟩ := h.inv
    by_cases c : m = k
    · subst c
      exact ⟨[], l, x, y, rfl, .nil x, h1, h2⟩
    · obtain ⟨l1, l2, u, v, e, w1, w2, w3⟩ := h2.cut ((List.mem_cons.mp hm).resolve_left c)
      exact ⟨k :: l1, l2, u, v, by rw [e]; rfl, .cons h1 w1, w2, w3⟩
/-- a tie of a forest is on the way from a to b just if without it they are apart -/
theorem IsRing.mem_iff {ts : List (Int × Int)} {ms ns : List Int} {a b : Int} (h : IsRing ts ms a b ns) (hf : ringlessF (fun x => x) (pick ts ms) = true) (hn : ms.Nodup) (x : Int) : x ∈ ns ↔ x ∈ ms ∧ foldR (fun x => x) (pick ts (but x ms)) a ≠ foldR (fun x => x) (pick ts (but x ms)) b := by
  constructor
  · intro hx
    have hxm := h.mem x hx
    refine ⟨hxm, fun e => ?_⟩
    obtain ⟨l1, l2, u, v, el, w1, w2, w3⟩ := h.way.cut hx
    have hnd := h.nd
    rw [el] at hnd
    have hnd' := List.nodup_append.mp hnd
    have hx1 : ∀ m ∈ l1, m ∈ but x ms := fun m hm => mem_but.mpr ⟨h.mem m (by rw [el]; exact List.mem_append_left _ hm), hnd'.2.2 m hm x List.mem_cons_self⟩
    have hx2 : ∀ m ∈ l2, m ∈ but x ms := fun m hm => mem_but.mpr ⟨h.mem m (by rw [el]; exact List.mem_append_right _ (List.mem_cons_of_mem _ hm)), fun z => (List.nodup_cons.mp hnd'.2.1).1 (z ▸ hm)⟩
    have e1 := w1.joined hx1
    have e2 := w3.joined hx2
    have e3 : foldR (fun x => x) (pick ts (but x ms)) u = foldR (fun x => x) (pick ts (but x ms)) v := e1.symm.trans (e.trans e2.symm)
    have hp : (pick ts ms).Perm (pick ts (but x ms) ++ [ts.getD x.toNat (0, 0)]) := by
      rw [show [ts.getD x.toNat (0, 0)] = pick ts [x] from rfl, ← pick_append]
      exact (but_perm hn hxm).map _
    have ha := forest_apart hp hf
    rcases w2 with w2 | w2
    · rw [w2] at ha
      exact ha e3
    · rw [w2] at ha
      exact ha e3.symm
  · intro ⟨_, hne⟩
    by_cases c : x ∈ ns
    · exact c
    · exact absurd (h.way.joined fun m hm => mem_but.mpr ⟨h.mem m hm, fun z => c (by rw [← z]; exact hm)⟩) hne
end FF
namespace FF
open PySem PySem.Spec PyProof.Rows L2
variable [LT]
/-! ### a search along ties -/
theorem mem_nums {f : Int} : ∀ {i : Nat} {ws : List V} {k : Nat}, ws[k]? = some (.int f) → ((i + k : Nat) : Int) ∈ numsFrom f i ws := by
  intro i ws k h
  obtain ⟨hk, e⟩ := List.getElem?_eq_some_iff.mp h
  have e1 : ws = ws.take k ++ [V.int f] ++ ws.drop (k + 1) := take_rest h
  have app : ∀ (us : List V) (vs : List V) (i : Nat), ∀ x ∈ numsFrom f i us, x ∈ numsFrom f i (us ++ vs) := fun us vs => by
    induction vs generalizing us with
    | nil => intro i x hx; rw [List.append_nil]; exact hx
    | cons v vs ih =>
      intro i x hx
      rw [show us ++ v :: vs = (us ++ [v]) ++ vs by simp]
      refine ih _ i x ?_
      rw [nums_snoc]
      exact List.mem_append_left _ hx
  rw [e1]
  refine app _ _ i _ ?_
  rw [nums_snoc, if_pos rfl, List.length_take, Nat.min_eq_left (by omega)]
  exact List.mem_append_right _ List.mem_cons_self
end FF
namespace FF
open PySem PySem.Spec PyProof.Rows L2
variable [LT]
/-! ### pushes -/
theorem nums_nd (f : Int) : ∀ (i : Nat) (ws : List V), (numsFrom f i ws).Nodup
  | _, [] => List.nodup_nil
  | i, x :: r => by
    show ((if x = V.int f then [(i : Int)] else []) ++ numsFrom f (i + 1) r).Nodup
    rw [List.nodup_append]
    refine ⟨by split <;> simp, nums_nd f (i + 1) r, fun a ha b hb z => ?_⟩
    have := nums_bd f (i + 1) r b hb
    split at ha
    · have := List.mem_singleton.mp ha
      omega
    · cases ha
open Classical in
noncomputable def joinB (ts : List (Int × Int)) (ws : List V) (e : Int × Int) : Bool := decide (foldR (fun x => x) (layerOf ts ws e.2) (ts.getD e.1.toNat (0, 0)).1 = foldR (fun x => x) (layerOf ts ws e.2) (ts.getD e.1.toNat (0, 0)).2)
/-- the tie x is on the ring of the entry e -/
def OnRing (ts : List (Int × Int)) (ws : List V) (e : Int × Int) (x : Int) : Prop := x ∈ numsFrom e.2 0 ws ∧ foldR (fun x => x) (pick ts (but x (numsFrom e.2 0 ws))) (ts.getD e.1.toNat (0, 0)).1 ≠ foldR (fun x => x) (pick ts (but x (numsFrom e.2 0 ws))) (ts.getD e.1.toNat (0, 0)).2
open Classical in
noncomputable def pushB (ts : List (Int × Int)) (ws : List V) : List (Int × Int) → Bool
  | [] => true
  | [e] => !joinB ts ws e
  | e :: e' :: r => (joinB ts ws e && decide (OnRing ts ws e e'.1)) && pushB ts ws (e' :: r)
def layB (ws : List V) (e : Int × Int) : Bool := decide (ws[e.1.toNat]? = some (.int e.2))
end FF
namespace FF
open PySem PySem.Spec PyProof.Rows L2
variable [LT]
/-! ### zip of a list and a tuple, either way -/
end FF
namespace FF
open PySem PySem.Spec PyProof.Rows L2
variable [LT]
/-! ### t.count of a tuple of ints; l[i] op= e -/
section
variable {X : Cx} {K : PySem.W.Frag}
end
/-! ### outs of ways -/
theorem ext_hat {as bs : List Int} (hl : as.length = bs.length) (h : ∀ x : Int, 0 ≤ x → x < as.length → hat as x = hat bs x) : as = bs := by
  refine List.ext_getElem hl fun i h1 h2 => ?_
  have := h (i : Int) (by omega) (by omega)
  unfold hat at this
  rw [Int.toNat_natCast, List.getD_eq_getElem?_getD, List.getD_eq_getElem?_getD, List.getElem?_eq_getElem h1, List.getElem?_eq_getElem h2] at this
  exact this
end FF
namespace FF
open PySem PySem.Spec PyProof.Rows L2
variable [LT]
/-! ### tuples that are known to the object: methods can be asked of them -/
def TF (H : Hp) (a : Addr) (xs : List V) : Prop := ∃ o : Obj, H a = some (.frz o (.tup xs)) ∧ o.dict = none
theorem TF.sq {K : PySem.W.Frag} {H : Hp} {a : Addr} {xs : List V} (h : TF H a xs) : SqT K H a xs := by
  obtain ⟨o, e, _⟩ := h
  exact .inl (.inr ⟨o, e⟩)
theorem TF.ke {H H' : Hp} {a : Addr} {xs : List V} (h : TF H a xs) (k : Ke H H') : TF H' a xs := by
  obtain ⟨o, e, d⟩ := h
  exact ⟨o, k.at_ a _ e (fun _ z => nomatch z) fun z => z, d⟩
theorem TF.new {H : Hp} {p a : Addr} {o : HO} {xs : List V} (h : TF H a xs) (k : H p = none) : TF (upd H p o) a xs := h.ke (Ke.new k)
theorem TF.dk {H H' : Hp} {p a : Addr} {xs : List V} (h : TF H a xs) (k : Dk p H H') (d : Deck H p) : TF H' a xs := by
  obtain ⟨o, e, d'⟩ := h
  obtain ⟨ds, e2, _⟩ := d
  exact ⟨o, k.k.at_ a _ e (fun _ z => nomatch z) (ne_of e e2 (fun z => nomatch z)), d'⟩
theorem TF.put {H : Hp} {p a : Addr} {o : HO} {xs ys : List V} (h : TF H a xs) (k : H p = some (.lst ys)) : TF (upd H p o) a xs := by
  obtain ⟨o, e, d'⟩ := h
  exact ⟨o, by rw [upd_ne (ne_of e k (fun z => nomatch z))]; exact e, d'⟩
section
variable {X : Cx} {K : PySem.W.Frag}
variable {o e : Expr} {es : List Expr} {to : TE} {t : TA} {name : Str} {apos cpos : Pos} {id : String} {r : V → List V → Hp → VK → Prop}
end
/-! ### a thing: a tuple or not -/
inductive ThK (K : PySem.W.Frag) (H : Hp) : V → Option (List V) → Prop where
  | no {v : V} {nm : String} (h : TyN H v nm) (hn : nm ≠ "tuple") : ThK K H v none
  | yes {a : Addr} {xs : List V} (h : SqT K H a xs) (ht : TyX K H (.ref a) (.type "tuple")) (hx : ∀ x ∈ xs, ∃ n, TyN H x n) : ThK K H (.ref a) (some xs)
theorem Tpl.k {K : PySem.W.Frag} {H : Hp} {v : V} {o : Option (List V)} (h : Tpl H v o) : ThK K H v o := by
  cases h with
  | no h hn => exact .no h hn
  | yes h hx => exact .yes (sqT_of h) (TyN.tup h).x hx
theorem TF.k {K : PySem.W.Frag} {H : Hp} {a : Addr} {xs : List V} (h : TF H a xs) (hx : ∀ x ∈ xs, ∃ n, TyN H x n) : ThK K H (.ref a) (some xs) := by
  have h' := h.sq (K := K)
  obtain ⟨o, e, _⟩ := h
  exact .yes h' (.fTuple e) hx
theorem TF.ints {K : PySem.W.Frag} {H : Hp} {a : Addr} {ws : List Int} (h : TF H a (ws.map V.int)) : ThK K H (.ref a) (some (ws.map V.int)) := h.k (ty_ints ws)
theorem isi_yes {K : PySem.W.Frag} : PySem.W.kitOne K (.type "tuple") (.type "tuple") = some true := kit_ty (by decide +kernel)
/-! ### ways as things -/
def crowdO (n : Int) (ts : List (Int × Int)) (d : Int) (o : Option (List V)) : Bool := lotO n o && match o with
  | some xs => decide ((inside (intsOf xs) ts : Int) > d * (xs.length : Int))
  | none => false
theorem Lot.crowd {n : Int} {ls : List Int} (h : Lot n ls) (ts : List (Int × Int)) (d : Int) : crowdO n ts d (some (ls.map V.int)) = decide ((inside ls ts : Int) > d * (ls.length : Int)) := by
  show (lotO n (some (ls.map V.int)) && decide ((inside (intsOf (ls.map V.int)) ts : Int) > d * ((ls.map V.int).length : Int))) = _
  rw [h.o, Bool.true_and, intsOf_map, List.length_map]
end FF
namespace FF
open PySem PySem.Spec PyProof.Rows L2
variable [LT]
/-! ### a def whose last parameter has a default -/
end FF
namespace FF
open PySem PySem.Spec PyProof.Rows L2
variable [LT]
/-! ### data of tuples, to a depth -/
theorem Sh.up {k l : Nat} {d : PyData} (h : Sh k d) (hk : k ≤ l) : Sh l d := ⟨h.1, Nat.le_trans h.2 hk⟩
/-! ### ties in another order -/
theorem Ties.perm {H : Hp} {rs qs : List V} (p : qs.Perm rs) : ∀ {ts : List (Int × Int)}, Ties H rs ts → ∃ us, Ties H qs us ∧ us.Perm ts := by
  induction p with
  | nil => intro ts h; exact ⟨ts, h, .refl _⟩
  | cons x _ ih =>
    intro ts h
    cases h with
    | cons h t =>
      obtain ⟨us, h1, h2⟩ := ih t
      exact ⟨_, .cons h h1, h2.cons _⟩
  | swap x y l =>
    intro ts h
    cases h with
    | cons h t =>
      cases t with
      | cons h2 t => exact ⟨_, .cons h2 (.cons h t), .swap _ _ _⟩
  | trans _ _ ih1 ih2 =>
    intro ts h
    obtain ⟨us, h1, h2⟩ := ih2 h
    obtain ⟨vs, h3, h4⟩ := ih1 h1
    exact ⟨vs, h3, h4.trans h2⟩
theorem TOk.perm {n : Int} {ts us : List (Int × Int)} (h : TOk n ts) (p : us.Perm ts) : TOk n us := fun t ht => h t (p.mem_iff.mp ht)
/-! ### partings as things -/
/-! ### the greatest of some -/
theorem eqvAll_ints : ∀ as bs : List Int, PyData.eqvAll (as.map PyData.int) (bs.map PyData.int) = decide (as = bs)
  | [], [] => by rw [PyData.eqvAll.eq_def]; rfl
  | [], b :: bs => by rw [PyData.eqvAll.eq_def]; rfl
  | a :: as, [] => by rw [PyData.eqvAll.eq_def]; rfl
  | a :: as, b :: bs => by
    rw [List.map_cons, List.map_cons, PyData.eqvAll, eqvAll_ints as bs, PyData.eqv]
    by_cases h : a = b
    · subst h
      by_cases g : as = bs
      · subst g; simp
      · rw [decide_eq_false g, decide_eq_false fun z => g (List.cons.inj z).2, Bool.and_false]
    · rw [decide_eq_false fun z => h (List.cons.inj z).1, show (a == b) = false by simpa using h, Bool.false_and]
theorem eqv_lints (as bs : List Int) : PyData.eqv (.list (as.map PyData.int)) (.list (bs.map PyData.int)) = decide (as = bs) := by
  rw [PyData.eqv]
  exact eqvAll_ints as bs
end FF
namespace FF
open PySem PySem.Spec PyProof.Rows L2
variable [LT]
/-! ### how many are laid -/
def laidN (ws : List V) : Nat := (ws.filter fun x => !decide (x = V.non)).length
end FF
namespace FF
open PySem PySem.Spec PyProof.Rows L2
variable [LT]
/-! ### rising tuples as things -/
/-! ### how many ties a forest has within a lot -/
theorem nub_glue {a b : Int} {hs : List Int} (ha : a ∈ hs) (hb : b ∈ hs) (h : a ≠ b) : (nub (hs.map fun x => if x = b then a else x)).length + 1 = (nub hs).length := by
  have e : (b :: nub (hs.map fun x => if x = b then a else x)).length = (nub hs).length := by
    refine nd_eq (List.nodup_cons.mpr ⟨fun z => ?_, nub_nd _⟩) (nub_nd _) fun x => ?_
    · rw [mem_nub] at z
      obtain ⟨y, hy, e⟩ := List.mem_map.mp z
      split at e
      · exact h e
      · rename_i hn
        exact hn e
    · rw [mem_nub, List.mem_cons, mem_nub]
      constructor
      · rintro (rfl | hx)
        · exact hb
        · obtain ⟨y, hy, e⟩ := List.mem_map.mp hx
          split at e
          · exact e ▸ ha
          · exact e ▸ hy
      · intro hx
        by_cases e : x = b
        · exact .inl e
        · exact .inr (List.mem_map.mpr ⟨x, hx, by rw [if_neg e]⟩)
  rw [← e, List.length_cons]
theorem lot_count {ls : List Int} : ∀ {ts : List (Int × Int)} {r : Int → Int}, ringlessF r ts = true → (∀ t ∈ ts, t.1 ∈ ls ∧ t.2 ∈ ls) → ts.length + (nub (ls.map (foldR r ts))).length = (nub (ls.map r)).length
  | [], r, _, _ => Nat.zero_add _
  | t :: ts, r, h, hm => by
    obtain ⟨h1, h2⟩ := hm t List.mem_cons_self
    have h : (if r t.1 = r t.2 then false else ringlessF (rstep r t) ts) = true := h
    have e : r t.1 ≠ r t.2 := fun z => by rw [if_pos z] at h; cases h
    rw [if_neg e] at h
    have hr := h
    have ih := lot_count (ls := ls) hr fun t' h' => hm t' (List.mem_cons_of_mem _ h')
    have g := nub_glue (hs := ls.map r) (List.mem_map.mpr ⟨_, h1, rfl⟩) (List.mem_map.mpr ⟨_, h2, rfl⟩) e
    have em : (ls.map r).map (fun x => if x = r t.2 then r t.1 else x) = ls.map (rstep r t) := by
      rw [List.map_map]
      rfl
    rw [em] at g
    have ih : ts.length + (nub (ls.map (foldR (rstep r t) ts))).length = (nub (ls.map (rstep r t))).length := ih
    show ts.length + 1 + (nub (ls.map (foldR (rstep r t) ts))).length = _
    omega
theorem lot_count_le {ls : List Int} {ts : List (Int × Int)} (h : ringlessF (fun x => x) ts = true) (hm : ∀ t ∈ ts, t.1 ∈ ls ∧ t.2 ∈ ls) (hn : ls.Nodup) (he : ls ≠ []) : ts.length + 1 ≤ ls.length := by
  have := lot_count h hm
  rw [List.map_id', nub_of_nd hn] at this
  have h1 : 0 < (nub (ls.map (foldR (fun x => x) ts))).length := by
    cases ls with
    | nil => exact absurd rfl he
    | cons x r =>
      have : foldR (fun x => x) ts x ∈ nub ((x :: r).map (foldR (fun x => x) ts)) := (mem_nub _ _).mpr List.mem_cons_self
      exact List.length_pos_of_mem this
  omega
theorem ringlessF_filter (p : Int × Int → Bool) {L : List (Int × Int)} (h : ringlessF (fun x => x) L = true) : ringlessF (fun x => x) (L.filter p) = true := by
  have hp : L.Perm (L.filter p ++ L.filter fun t => !p t) := (List.filter_append_perm p L).symm
  rw [ringlessF_perm hp] at h
  cases e : ringlessF (fun x => x) (L.filter p) with
  | true => rfl
  | false => rw [ringlessF_bad _ _ _ e] at h; cases h
/-- a forest has at most so many ties within a lot -/
theorem inside_forest {ls : List Int} {L : List (Int × Int)} (h : ringlessF (fun x => x) L = true) (hn : ls.Nodup) (he : ls ≠ []) : inside ls L + 1 ≤ ls.length := by
  refine lot_count_le (ringlessF_filter _ h) (fun t ht => ?_) hn he
  have := (List.mem_filter.mp ht).2
  rw [Bool.and_eq_true, decide_eq_true_eq, decide_eq_true_eq] at this
  exact this
end FF
namespace FF
open PySem PySem.Spec PyProof.Rows L2
variable [LT]
/-! ### laid ties, and how many of them lie within a lot -/
def laidM (ws : List V) (ms : List Int) : List Int := ms.filter fun m => !decide (ws.getD m.toNat .non = V.non)
def laidT (ts : List (Int × Int)) (ws : List V) : List (Int × Int) := ((ts.zip ws).filter fun p => !decide (p.2 = V.non)).map Prod.fst
theorem laidT_snoc {ts : List (Int × Int)} {ws : List V} (h : ts.length = ws.length) (t : Int × Int) (x : V) : laidT (ts ++ [t]) (ws ++ [x]) = laidT ts ws ++ if (!decide (x = V.non)) = true then [t] else [] := by
  unfold laidT
  rw [List.zip_append h, List.filter_append, List.map_append]
  congr 1
  show (List.filter (fun p : (Int × Int) × V => !decide (p.2 = V.non)) [(t, x)]).map Prod.fst = _
  rw [List.filter_cons]
  dsimp only
  split <;> rfl
theorem pick_laid {ts : List (Int × Int)} {ws : List V} (h : ws.length = ts.length) : ∀ i : Nat, i ≤ ts.length → pick ts (laidM ws (upTo i)) = laidT (ts.take i) (ws.take i)
  | 0, _ => rfl
  | i + 1, hi => by
    have ih := pick_laid h i (by omega)
    have e1 : ts[i]? = some (ts.getD i (0, 0)) := by rw [List.getD_eq_getElem?_getD, List.getElem?_eq_getElem (show i < ts.length by omega)]; rfl
    have e2 : ws[i]? = some (ws.getD i .non) := by rw [List.getD_eq_getElem?_getD, List.getElem?_eq_getElem (show i < ws.length by omega)]; rfl
    rw [take_next e1, take_next e2, laidT_snoc (by rw [List.length_take, List.length_take]; omega), ← ih]
    rw [show ((i + 1 : Nat) : Int) = (i : Int) + 1 by omega, upTo_snoc]
    unfold laidM
    rw [List.filter_append, pick_append]
    congr 1
    rw [List.filter_cons, Int.toNat_natCast]
    split
    · rw [List.filter_nil]
      rfl
    · rfl
theorem layerOf_cons (t : Int × Int) (ts : List (Int × Int)) (x : V) (ws : List V) (f : Int) : layerOf (t :: ts) (x :: ws) f = (if x = V.int f then [t] else []) ++ layerOf ts ws f := by
  unfold layerOf
  rw [List.zip_cons_cons, List.filter_cons]
  dsimp only
  by_cases e : x = V.int f
  · rw [if_pos e, if_pos (decide_eq_true e)]; rfl
  · rw [if_neg e, if_neg (by rw [decide_eq_false e]; decide)]; rfl
theorem laidT_cons (t : Int × Int) (ts : List (Int × Int)) (x : V) (ws : List V) : laidT (t :: ts) (x :: ws) = (if x = V.non then [] else [t]) ++ laidT ts ws := by
  unfold laidT
  rw [List.zip_cons_cons, List.filter_cons]
  dsimp only
  by_cases e : x = V.non
  · rw [if_pos e, if_neg (by rw [decide_eq_true e]; decide)]; rfl
  · rw [if_neg e, if_pos (by rw [decide_eq_false e]; rfl)]; rfl
theorem inside_app (ls : List Int) (ts us : List (Int × Int)) : inside ls (ts ++ us) = inside ls ts + inside ls us := by
  unfold inside
  rw [List.filter_append, List.length_append]
/-- the laid ties within a lot, forest by forest -/
theorem inside_laid {k : Int} (ls : List Int) : ∀ {ts : List (Int × Int)} {ws : List V}, ws.length = ts.length → (∀ x ∈ ws, x = V.non ∨ ∃ f, x = V.int f ∧ 0 ≤ f ∧ f < k) → (inside ls (laidT ts ws) : Int) = ((upTo k).map fun f => (inside ls (layerOf ts ws f) : Int)).sum
  | [], [], _, _ => by
    have : ∀ f ∈ upTo k, (fun f => (inside ls (layerOf [] [] f) : Int)) f = 0 := fun f _ => rfl
    exact (sum_zero _ this).symm
  | t :: ts, x :: ws, hl, hx => by
    have ih := inside_laid ls (ts := ts) (ws := ws) (Nat.succ.inj hl) fun y hy => hx y (List.mem_cons_of_mem _ hy)
    have e : (fun f => (inside ls (layerOf (t :: ts) (x :: ws) f) : Int)) = fun f => (inside ls (if x = V.int f then [t] else []) : Int) + (inside ls (layerOf ts ws f) : Int) := by
      funext f
      rw [layerOf_cons, inside_app, Int.natCast_add]
    rw [e, sum_add, laidT_cons, inside_app, Int.natCast_add, ih]
    congr 1
    rcases hx x List.mem_cons_self with rfl | ⟨f, rfl, f0, f1⟩
    · rw [if_pos rfl]
      refine (sum_zero _ fun f _ => ?_).symm
      rw [if_neg (fun z => nomatch z)]
      rfl
    · rw [if_neg (fun z => nomatch z)]
      rw [sum_one (m := f) _ (upTo_nd k) (upTo_mem.mpr ⟨f0, f1⟩) fun y _ hy => ?_]
      · rw [if_pos rfl]
      · rw [if_neg fun z => hy (V.int.inj z).symm]
        rfl
theorem sum_most {s : Int} {g : Int → Int} : ∀ {l : List Int}, (∀ x ∈ l, g x ≤ s) → (l.map g).sum ≤ l.length * s ∧ ((l.map g).sum = l.length * s ↔ ∀ x ∈ l, g x = s)
  | [], _ => by simp
  | x :: l, h => by
    obtain ⟨i1, i2⟩ := sum_most (l := l) fun y hy => h y (List.mem_cons_of_mem _ hy)
    have hx := h x List.mem_cons_self
    have e : ((x :: l).length : Int) * s = (l.length : Int) * s + s := by
      rw [List.length_cons, Int.natCast_add, Int.add_mul]
      show _ + 1 * s = _
      rw [Int.one_mul]
    rw [List.map_cons, List.sum_cons, e]
    generalize (l.length : Int) * s = c at *
    refine ⟨by omega, fun z y hy => ?_, fun z => ?_⟩
    · have h1 : (l.map g).sum = c := by omega
      rcases List.mem_cons.mp hy with rfl | hy
      · omega
      · exact i2.mp h1 y hy
    · have h1 := i2.mpr fun y hy => z y (List.mem_cons_of_mem _ hy)
      have h2 := z x List.mem_cons_self
      omega
/-- a laying's forests, and none beyond k -/
structure LayK (ts : List (Int × Int)) (k : Int) (ws : List V) : Prop where
  len : ws.length = ts.length
  each : ∀ x ∈ ws, x = V.non ∨ ∃ f, x = V.int f ∧ 0 ≤ f ∧ f < k
  tree : ∀ f, ringlessF (fun x => x) (layerOf ts ws f) = true
theorem LayK.isO {ts : List (Int × Int)} {k : Int} {ws : List V} (h : LayK ts k ws) : ∀ x ∈ ws, IsO x := fun x hx => (h.each x hx).elim .inl fun ⟨f, e, _⟩ => .inr ⟨f, e⟩
theorem LayK.more {ts : List (Int × Int)} {k k' : Int} {ws : List V} (h : LayK ts k ws) (hk : k ≤ k') : LayK ts k' ws := ⟨h.len, fun x hx => (h.each x hx).imp id fun ⟨f, e, f0, f1⟩ => ⟨f, e, f0, Int.lt_of_lt_of_le f1 hk⟩, h.tree⟩
theorem tight_iff {ts : List (Int × Int)} {k : Int} {ws : List V} (h : LayK ts k ws) (hk : 0 ≤ k) {ls : List Int} (hn : ls.Nodup) (he : ls ≠ []) : ((inside ls (laidT ts ws) : Int) = k * ((ls.length : Int) - 1)) ↔ ∀ f, 0 ≤ f → f < k → (inside ls (layerOf ts ws f) : Int) = (ls.length : Int) - 1 := by
  rw [inside_laid ls h.len h.each]
  have hm := sum_most (s := (ls.length : Int) - 1) (g := fun f => (inside ls (layerOf ts ws f) : Int)) (l := upTo k) fun f _ => by
    have := inside_forest (h.tree f) hn he
    show (inside ls (layerOf ts ws f) : Int) ≤ _
    omega
  have hl : ((upTo k).length : Int) = k := by rw [upTo_length]; omega
  rw [hl] at hm
  rw [hm.2]
  exact ⟨fun z f f0 f1 => z f (upTo_mem.mpr ⟨f0, f1⟩), fun z f hf => z f (upTo_mem.mp hf).1 (upTo_mem.mp hf).2⟩
/-! ### all lots -/
def lotsF : Nat → List (List Int)
  | 0 => [[]]
  | n + 1 => lotsF n ++ (lotsF n).map fun l => l ++ [(n : Int)]
theorem lotsF_ok : ∀ (n : Nat) (l : List Int), l ∈ lotsF n → l.Pairwise (· < ·) ∧ (∀ x ∈ l, 0 ≤ x ∧ x < (n : Int)) ∧ l.length ≤ n
  | 0, l, h => by
    rw [List.mem_singleton.mp h]
    exact ⟨.nil, (fun _ z => nomatch z), Nat.le_refl _⟩
  | n + 1, l, h => by
    rcases List.mem_append.mp (show l ∈ lotsF n ++ (lotsF n).map fun l => l ++ [(n : Int)] from h) with h | h
    · obtain ⟨h1, h2, h3⟩ := lotsF_ok n l h
      exact ⟨h1, fun x hx => by have := h2 x hx; omega, by omega⟩
    · obtain ⟨l', h', rfl⟩ := List.mem_map.mp h
      obtain ⟨h1, h2, h3⟩ := lotsF_ok n l' h'
      refine ⟨?_, fun x hx => ?_, by rw [List.length_append]; exact Nat.succ_le_succ h3⟩
      · rw [List.pairwise_append]
        exact ⟨h1, List.pairwise_singleton _ _, fun a ha b hb => by rw [List.mem_singleton.mp hb]; exact (h2 a ha).2⟩
      · rcases List.mem_append.mp hx with hx | hx
        · have := h2 x hx; omega
        · rw [List.mem_singleton.mp hx]; omega
theorem lotsF_all : ∀ (n : Nat) {l : List Int}, l.Pairwise (· < ·) → (∀ x ∈ l, 0 ≤ x ∧ x < (n : Int)) → l ∈ lotsF n
  | 0, l, _, h => by
    cases l with
    | nil => exact List.mem_singleton.mpr rfl
    | cons x r => have := h x List.mem_cons_self; omega
  | n + 1, l, hp, h => by
    show l ∈ lotsF n ++ (lotsF n).map fun l => l ++ [(n : Int)]
    by_cases hn : (n : Int) ∈ l
    · refine List.mem_append_right _ (List.mem_map.mpr ⟨l.filter fun x => decide (x < n), lotsF_all n (hp.filter _) (fun x hx => ?_), ?_⟩)
      · have h1 := (List.mem_filter.mp hx)
        have := of_decide_eq_true h1.2
        exact ⟨(h x h1.1).1, this⟩
      · refine up_same ?_ hp fun x => ?_
        · rw [List.pairwise_append]
          exact ⟨hp.filter _, List.pairwise_singleton _ _, fun a ha b hb => by rw [List.mem_singleton.mp hb]; exact of_decide_eq_true (List.mem_filter.mp ha).2⟩
        · rw [List.mem_append, List.mem_filter, List.mem_singleton, decide_eq_true_eq]
          constructor
          · rintro (⟨a, _⟩ | rfl)
            · exact a
            · exact hn
          · intro hx
            have := h x hx
            by_cases e : x = n
            · exact .inr e
            · exact .inl ⟨hx, by omega⟩
    · refine List.mem_append_left _ (lotsF_all n hp fun x hx => ?_)
      have := h x hx
      have : x ≠ n := fun z => hn (z ▸ hx)
      omega
theorem Lots.tys {H : Hp} {rs : List V} {pss : List (List Int)} (h : Lots H rs pss) : ∀ r ∈ rs, ∃ ls q, ls ∈ pss ∧ r = .ref q ∧ H q = some (.tup (ls.map V.int)) := fun r hr => by
  obtain ⟨i, hi⟩ := List.mem_iff_getElem?.mp hr
  obtain ⟨ls, q, e, er, hq⟩ := h.get hi
  exact ⟨ls, q, List.mem_of_getElem? e, er, hq⟩
theorem ringlessF_sub {L L' : List (Int × Int)} (s : L'.Sublist L) (h : ringlessF (fun x => x) L = true) : ringlessF (fun x => x) L' = true := by
  obtain ⟨r, hp⟩ := s.exists_perm_append
  rw [ringlessF_perm hp] at h
  cases e : ringlessF (fun x => x) L' with
  | true => rfl
  | false => rw [ringlessF_bad _ _ _ e] at h; cases h
theorem layerOf_nons (ts : List (Int × Int)) (f : Int) : ∀ m : Nat, layerOf ts (List.replicate m .non) f = [] := fun m => by
  unfold layerOf
  rw [List.map_eq_nil_iff, List.filter_eq_nil_iff]
  intro p hp
  have := (List.of_mem_zip (a := p.1) (b := p.2) hp).2
  rw [List.eq_of_mem_replicate this]
  exact fun z => nomatch of_decide_eq_true z
theorem LayK.none (ts : List (Int × Int)) {k : Int} : LayK ts k (List.replicate ts.length .non) := ⟨List.length_replicate, fun x hx => .inl (List.eq_of_mem_replicate hx), fun f => by rw [layerOf_nons]; rfl⟩
theorem laidT_ok {n : Int} {ts : List (Int × Int)} {ws : List V} (ok : TOk n ts) : TOk n (laidT ts ws) := fun t ht => by
  obtain ⟨p, hp, rfl⟩ := List.mem_map.mp ht
  exact ok _ (List.of_mem_zip (a := p.1) (b := p.2) (List.mem_filter.mp hp).1).1
theorem Lot.nd {n : Int} {ls : List Int} (h : Lot n ls) : ls.Nodup := h.up.imp fun z => by omega
end FF
namespace FF
open PySem PySem.Spec PyProof.Rows L2
variable [LT]
/-! ### trees -/
theorem free_new {ts : List (Int × Int)} {a b : Int} (hb : ∀ t ∈ ts, t.1 ≠ b ∧ t.2 ≠ b) (hab : a ≠ b) : foldR (fun x => x) ts a ≠ foldR (fun x => x) ts b := fun e => by
  have := foldR_fine (g := fun x => if x = b then 1 else 0) (L := ts) (r := fun x => x) (fun x y z => by rw [show x = y from z]) (fun t ht => by
    show (if t.1 = b then (1 : Int) else 0) = if t.2 = b then 1 else 0
    rw [if_neg (hb t ht).1, if_neg (hb t ht).2]) a b e
  have this : (if a = b then (1 : Int) else 0) = if b = b then 1 else 0 := this
  rw [if_neg hab, if_pos rfl] at this
  cases this
theorem ringlessF_leaf {ts : List (Int × Int)} {t : Int × Int} {a b : Int} (h : ringlessF (fun x => x) ts = true) (hb : ∀ t ∈ ts, t.1 ≠ b ∧ t.2 ≠ b) (hab : a ≠ b) (ht : t = (a, b) ∨ t = (b, a)) : ringlessF (fun x => x) (ts ++ [t]) = true := by
  rw [ringlessF_more h]
  have := free_new hb hab
  rcases ht with rfl | rfl
  · rw [decide_eq_false this]; rfl
  · rw [decide_eq_false fun z => this z.symm]; rfl
theorem inside_all {n : Int} {ts : List (Int × Int)} (ok : TOk n ts) : inside (upTo n) ts = ts.length := by
  unfold inside
  rw [List.filter_eq_self.mpr]
  intro t ht
  have := ok t ht
  rw [Bool.and_eq_true, decide_eq_true_eq, decide_eq_true_eq]
  exact ⟨upTo_mem.mpr ⟨by omega, by omega⟩, upTo_mem.mpr ⟨by omega, by omega⟩⟩
theorem laidT_len : ∀ {ts : List (Int × Int)} {ws : List V}, ws.length = ts.length → (laidT ts ws).length = laidN ws
  | [], [], _ => rfl
  | t :: ts, x :: ws, h => by
    have ih := laidT_len (ts := ts) (ws := ws) (Nat.succ.inj h)
    rw [laidT_cons, List.length_append, ih]
    unfold laidN
    rw [List.filter_cons]
    by_cases e : x = V.non
    · rw [if_pos e, if_neg (by rw [decide_eq_true e]; decide)]
      exact Nat.zero_add _
    · rw [if_neg e, if_pos (by rw [decide_eq_false e]; rfl), List.length_cons]
      exact Nat.add_comm _ _
theorem trees_iff {n : Int} {ts : List (Int × Int)} {k : Int} {ws : List V} (h : LayK ts k ws) (ok : TOk n ts) (hn : 1 ≤ n) (hk : 0 ≤ k) : ((laidN ws : Int) = k * (n - 1)) ↔ ∀ f, 0 ≤ f → f < k → ((layerOf ts ws f).length : Int) = n - 1 := by
  have := tight_iff h hk (ls := upTo n) (upTo_nd n) (fun z => by have := congrArg List.length z; rw [upTo_length] at this; simp at this; omega)
  have hl : ((upTo n).length : Int) = n := by rw [upTo_length]; omega
  rw [hl, inside_all (laidT_ok ok), laidT_len h.len] at this
  rw [this]
  constructor
  · intro z f f0 f1
    have := z f f0 f1
    rw [inside_all (layerOf_ok ok _ _)] at this
    exact this
  · intro z f f0 f1
    rw [inside_all (layerOf_ok ok _ _)]
    exact z f f0 f1
theorem LayK.o {ts : List (Int × Int)} {k : Int} {ws : List V} (h : LayK ts k ws) : layO ts k (some ws) = true := layO_good h.len (fun x hx => by
  rcases h.each x hx with rfl | ⟨f, rfl, f0, f1⟩
  · rfl
  · show (decide (0 ≤ f) && decide (f ≤ k - 1)) = true
    rw [decide_eq_true f0, decide_eq_true (by omega : f ≤ k - 1)]; rfl) fun f _ => h.tree f
/-- k trees side by side, and other ties -/
structure Stood (n : Int) (ts : List (Int × Int)) (k : Int) (ws : List V) : Prop where
  ok : TOk n ts
  lay : LayK ts k ws
  all : ∀ f, 0 ≤ f → f < k → ((layerOf ts ws f).length : Int) = n - 1
/-! ### ties with their forests -/
abbrev TV := (Int × Int) × V
def layP (ps : List TV) (f : Int) : List (Int × Int) := (ps.filter fun p => decide (p.2 = V.int f)).map Prod.fst
theorem layP_of (ps : List TV) (f : Int) : layerOf (ps.map Prod.fst) (ps.map Prod.snd) f = layP ps f := by
  unfold layerOf layP
  rw [List.zip_map', show (ps.map fun a : TV => (a.1, a.2)) = ps from List.map_id' ps]
theorem layP_app (ps qs : List TV) (f : Int) : layP (ps ++ qs) f = layP ps f ++ layP qs f := by
  unfold layP
  rw [List.filter_append, List.map_append]
theorem layP_perm {ps qs : List TV} (h : ps.Perm qs) (f : Int) : (layP ps f).Perm (layP qs f) := (h.filter _).map _
theorem layP_same (ts : List (Int × Int)) (f : Int) : layP (ts.map fun t => (t, V.int f)) f = ts := by
  unfold layP
  rw [List.filter_eq_self.mpr, List.map_map]
  · exact List.map_id' ts
  · intro p hp
    obtain ⟨t, _, rfl⟩ := List.mem_map.mp hp
    exact decide_eq_true rfl
theorem layP_other (ts : List (Int × Int)) {f : Int} {x : V} (h : x ≠ V.int f) : layP (ts.map fun t => (t, x)) f = [] := by
  unfold layP
  rw [List.map_eq_nil_iff, List.filter_eq_nil_iff]
  intro p hp
  obtain ⟨t, _, rfl⟩ := List.mem_map.mp hp
  exact fun z => h (of_decide_eq_true z)
/-- trees laid in the forests below k, and ties left out -/
structure StoodP (n : Int) (k : Int) (ps : List TV) : Prop where
  ok : ∀ p ∈ ps, 0 ≤ p.1.1 ∧ p.1.1 < p.1.2 ∧ p.1.2 < n
  each : ∀ p ∈ ps, p.2 = V.non ∨ ∃ f, p.2 = V.int f ∧ 0 ≤ f ∧ f < k
  tree : ∀ f, ringlessF (fun x => x) (layP ps f) = true
  all : ∀ f, 0 ≤ f → f < k → ((layP ps f).length : Int) = n - 1
theorem StoodP.nil {n : Int} : StoodP n 0 [] := ⟨(fun _ z => nomatch z), (fun _ z => nomatch z), (fun _ => rfl), fun f h0 h1 => by omega⟩
theorem StoodP.tree' {n k : Int} {ps : List TV} {ts : List (Int × Int)} (h : StoodP n k ps) (ok : TOk n ts) (hr : ringlessF (fun x => x) ts = true) (hl : (ts.length : Int) = n - 1) (hk : 0 ≤ k) : StoodP n (k + 1) (ps ++ ts.map fun t => (t, V.int k)) := by
  have hp : ∀ f, f ≥ k → layP ps f = [] := fun f hf => by
    unfold layP
    rw [List.map_eq_nil_iff, List.filter_eq_nil_iff]
    intro p hp z
    have z := of_decide_eq_true z
    rcases h.each p hp with e | ⟨g, e, g0, g1⟩
    · rw [e] at z; cases z
    · rw [e] at z
      have := V.int.inj z
      omega
  refine ⟨fun p hp => ?_, fun p hp => ?_, fun f => ?_, fun f f0 f1 => ?_⟩
  · rcases List.mem_append.mp hp with hp | hp
    · exact h.ok p hp
    · obtain ⟨t, ht, rfl⟩ := List.mem_map.mp hp
      exact ok t ht
  · rcases List.mem_append.mp hp with hp | hp
    · exact (h.each p hp).imp id fun ⟨f, e, f0, f1⟩ => ⟨f, e, f0, by omega⟩
    · obtain ⟨t, ht, rfl⟩ := List.mem_map.mp hp
      exact .inr ⟨k, rfl, hk, by omega⟩
  · rw [layP_app]
    by_cases e : f = k
    · subst e
      rw [hp f (Int.le_refl _), layP_same]
      exact hr
    · rw [layP_other ts (fun z => e (V.int.inj z).symm), List.append_nil]
      exact h.tree f
  · rw [layP_app]
    by_cases e : f = k
    · subst e
      rw [hp f (Int.le_refl _), layP_same]
      exact hl
    · rw [layP_other ts (fun z => e (V.int.inj z).symm), List.append_nil]
      exact h.all f f0 (by omega)
theorem StoodP.more {n k : Int} {ps : List TV} {ts : List (Int × Int)} (h : StoodP n k ps) (ok : TOk n ts) : StoodP n k (ps ++ ts.map fun t => (t, V.non)) := by
  refine ⟨fun p hp => ?_, fun p hp => ?_, fun f => ?_, fun f f0 f1 => ?_⟩
  · rcases List.mem_append.mp hp with hp | hp
    · exact h.ok p hp
    · obtain ⟨t, ht, rfl⟩ := List.mem_map.mp hp
      exact ok t ht
  · rcases List.mem_append.mp hp with hp | hp
    · exact h.each p hp
    · obtain ⟨t, ht, rfl⟩ := List.mem_map.mp hp
      exact .inl rfl
  · rw [layP_app, layP_other (x := V.non) ts (fun z => nomatch z), List.append_nil]
    exact h.tree f
  · rw [layP_app, layP_other (x := V.non) ts (fun z => nomatch z), List.append_nil]
    exact h.all f f0 f1
theorem StoodP.perm {n k : Int} {ps qs : List TV} (h : StoodP n k ps) (p : qs.Perm ps) : StoodP n k qs :=
  ⟨fun x hx => h.ok x (p.mem_iff.mp hx), fun x hx => h.each x (p.mem_iff.mp hx), fun f => by rw [ringlessF_perm (layP_perm p f)]; exact h.tree f, fun f f0 f1 => by rw [(layP_perm p f).length_eq]; exact h.all f f0 f1⟩
theorem StoodP.stood {n k : Int} {ps : List TV} (h : StoodP n k ps) : Stood n (ps.map Prod.fst) k (ps.map Prod.snd) := by
  refine ⟨fun t ht => ?_, ⟨by rw [List.length_map, List.length_map], fun x hx => ?_, fun f => by rw [layP_of]; exact h.tree f⟩, fun f f0 f1 => by rw [layP_of]; exact h.all f f0 f1⟩
  · obtain ⟨p, hp, rfl⟩ := List.mem_map.mp ht
    exact h.ok p hp
  · obtain ⟨p, hp, rfl⟩ := List.mem_map.mp hx
    exact h.each p hp
/-! ### rows of a tie and its forest, in the heap -/
def Prs (H : Hp) (rs : List V) (ps : List TV) : Prop := Paired (fun (r : V) (p : TV) => ∃ a q, r = .ref a ∧ H a = some (.tup [.ref q, p.2]) ∧ H q = some (.tup [.int p.1.1, .int p.1.2]) ∧ IsO p.2) rs ps
theorem Prs.mono {H H' : Hp} {rs : List V} {ps : List TV} (h : Prs H rs ps) (k : ∀ q xs, H q = some (.tup xs) → H' q = some (.tup xs)) : Prs H' rs ps := L2.Paired.mapP h fun _ _ ⟨a, q, e, z1, z2, o⟩ => ⟨a, q, e, k _ _ z1, k _ _ z2, o⟩
theorem Prs.ke {H H' : Hp} {rs : List V} {ps : List TV} (h : Prs H rs ps) (k : Ke H H') : Prs H' rs ps := h.mono fun _ _ => k.tup
theorem Prs.dk {H H' : Hp} {p : Addr} {rs : List V} {ps : List TV} (h : Prs H rs ps) (k : Dk p H H') (d : Deck H p) : Prs H' rs ps := h.mono fun _ _ => k.tup d
theorem Prs.new {H : Hp} {p : Addr} {o : HO} {rs : List V} {ps : List TV} (h : Prs H rs ps) (k : H p = none) : Prs (upd H p o) rs ps := h.mono fun _ _ => tup_new k
theorem Prs.put {H : Hp} {p : Addr} {o : HO} {ys : List V} {rs : List V} {ps : List TV} (h : Prs H rs ps) (k : H p = some (.lst ys)) : Prs (upd H p o) rs ps := h.mono fun q xs e => by rw [upd_ne (ne_of e k (fun z => nomatch z))]; exact e
theorem Prs.length {H : Hp} {rs : List V} {ps : List TV} (h : Prs H rs ps) : rs.length = ps.length := Paired.length h
theorem Prs.append {H : Hp} : ∀ {rs qs : List V} {ps us : List TV}, Prs H rs ps → Prs H qs us → Prs H (rs ++ qs) (ps ++ us)
  | _, _, _, _, .nil, g => g
  | _, _, _, _, .cons h t, g => .cons h (Prs.append t g)
theorem Prs.one {H : Hp} {a q : Addr} {t : Int × Int} {x : V} (h : H a = some (.tup [.ref q, x])) (hq : H q = some (.tup [.int t.1, .int t.2])) (o : IsO x) : Prs H [.ref a] [(t, x)] := .cons ⟨a, q, rfl, h, hq, o⟩ .nil
theorem Prs.get {H : Hp} : ∀ {rs : List V} {ps : List TV} {i : Nat} {r : V}, Prs H rs ps → rs[i]? = some r → ∃ p a q, ps[i]? = some p ∧ r = .ref a ∧ H a = some (.tup [.ref q, p.2]) ∧ H q = some (.tup [.int p.1.1, .int p.1.2]) ∧ IsO p.2
  | _, _, _, _, .nil, e => by simp at e
  | _, _, 0, _, .cons (b := p) ⟨a, q, e1, e2, e3, o⟩ _, e => by simp at e; subst e; exact ⟨p, a, q, rfl, e1, e2, e3, o⟩
  | _, _, i + 1, r, .cons _ t, e => by
    obtain ⟨p, a, q, h1, h2, h3⟩ := Prs.get (i := i) (r := r) t (by simpa using e)
    exact ⟨p, a, q, by simpa using h1, h2, h3⟩
theorem Prs.perm {H : Hp} {rs qs : List V} (p : qs.Perm rs) : ∀ {ts : List TV}, Prs H rs ts → ∃ us, Prs H qs us ∧ us.Perm ts := by
  induction p with
  | nil => intro ts h; exact ⟨ts, h, .refl _⟩
  | cons x _ ih =>
    intro ts h
    cases h with
    | cons h t =>
      obtain ⟨us, h1, h2⟩ := ih t
      exact ⟨_, .cons h h1, h2.cons _⟩
  | swap x y l =>
    intro ts h
    cases h with
    | cons h t =>
      cases t with
      | cons h2 t => exact ⟨_, .cons h2 (.cons h t), .swap _ _ _⟩
  | trans _ _ ih1 ih2 =>
    intro ts h
    obtain ⟨us, h1, h2⟩ := ih2 h
    obtain ⟨vs, h3, h4⟩ := ih1 h1
    exact ⟨vs, h3, h4.trans h2⟩
end FF
namespace FF
open PySem PySem.Spec PyProof.Rows L2
variable [LT]
theorem LayK.nil {k : Int} : LayK [] k [] := ⟨rfl, (fun _ z => nomatch z), fun _ => rfl⟩
theorem share1 {C : Prop} {R1 : Hp → Prop} (P1 : Hp → Prop) (h1 : ∀ G, R1 G → P1 G) (main : (∀ G, R1 G → P1 G) → C) : C := main h1
section
variable {X : Cx} {K : PySem.W.Frag} {a b : Expr} {ta tb : TE} {rest : List Expr} {pos : Pos}
end
theorem zip_erase {α β : Type} : ∀ (xs : List α) (ys : List β) (g : Nat), xs.length = ys.length → (xs.eraseIdx g).zip (ys.eraseIdx g) = (xs.zip ys).eraseIdx g
  | [], [], _, _ => rfl
  | x :: xs, y :: ys, 0, _ => rfl
  | x :: xs, y :: ys, g + 1, h => by
    show (x, y) :: (xs.eraseIdx g).zip (ys.eraseIdx g) = (x, y) :: (xs.zip ys).eraseIdx g
    rw [zip_erase xs ys g (Nat.succ.inj h)]
  | [], _ :: _, _, h => by cases h
  | _ :: _, [], _, h => by cases h
theorem LayK.erase {ts : List (Int × Int)} {k : Int} {ws : List V} (h : LayK ts k ws) {g : Nat} (hg : g < ts.length) : LayK (ts.eraseIdx g) k (ws.eraseIdx g) := by
  have hl := h.len
  refine ⟨by rw [List.length_eraseIdx, List.length_eraseIdx, if_pos hg, if_pos (by omega), hl], fun x hx => h.each x (List.mem_of_mem_eraseIdx hx), fun f => ringlessF_sub ?_ (h.tree f)⟩
  unfold layerOf
  rw [zip_erase ts ws g hl.symm]
  exact ((List.eraseIdx_sublist _ _).filter _).map _
theorem Ties.erase {H : Hp} : ∀ {rs : List V} {ts : List (Int × Int)} (g : Nat), Ties H rs ts → Ties H (rs.eraseIdx g) (ts.eraseIdx g)
  | _, _, _, .nil => .nil
  | _, _, 0, .cons _ t => t
  | _, _, g + 1, .cons h t => .cons h (Ties.erase g t)
end FF
namespace FF
open PySem PySem.Spec PyProof.Rows L2
variable [LT]
/-! ### exchanges in forests -/
abbrev tk (ts : List (Int × Int)) (a : Int) : Int × Int := ts.getD a.toNat (0, 0)
abbrev jn (ts : List (Int × Int)) (ms : List Int) (x y : Int) : Prop := foldR (fun x => x) (pick ts ms) x = foldR (fun x => x) (pick ts ms) y
theorem way_of {ts : List (Int × Int)} : ∀ (n : Nat) (ms : List Int), ms.length = n → ms.Nodup → ∀ x y, jn ts ms x y → ∃ ns, Way ts x ns y ∧ ns.Nodup ∧ ∀ m ∈ ns, m ∈ ms
  | 0, ms, hl, _, x, y, h => by
    have : ms = [] := List.length_eq_zero_iff.mp hl
    subst this
    have h : x = y := h
    subst h
    exact ⟨[], .nil x, List.nodup_nil, fun _ z => nomatch z⟩
  | n + 1, ms, hl, hnd, x, y, h => by
    have hne : ms ≠ [] := fun z => by rw [z] at hl; cases hl
    obtain ⟨is, m, rfl⟩ : ∃ is m, ms = is ++ [m] := ⟨ms.dropLast, ms.getLast hne, (List.dropLast_concat_getLast hne).symm⟩
    have hnd' := List.nodup_append.mp hnd
    have hmi : m ∉ is := fun z => hnd'.2.2 m z m List.mem_cons_self rfl
    have hil : is.length = n := by rw [List.length_append] at hl; exact Nat.succ.inj hl
    have ih := way_of (ts := ts) n is hil hnd'.1
    by_cases c : jn ts is x y
    · obtain ⟨ns, w, nd, hm⟩ := ih x y c
      exact ⟨ns, w, nd, fun k hk => List.mem_append_left _ (hm k hk)⟩
    have e : foldR (fun x => x) (pick ts (is ++ [m])) = rstep (foldR (fun x => x) (pick ts is)) (tk ts m) := by rw [pick_append]; exact foldR_snoc _ _ _
    unfold jn at h
    rw [e] at h
    -- a way over m
    have go : ∀ u v p q, jn ts is u p → jn ts is q v → ¬ jn ts is u v → Leads ts m p q → ∃ ns, Way ts u ns v ∧ ns.Nodup ∧ ∀ k ∈ ns, k ∈ is ++ [m] := fun u v p q h1 h2 h3 hL => by
      obtain ⟨n1, w1, d1, s1⟩ := ih u p h1
      obtain ⟨n2, w2, d2, s2⟩ := ih q v h2
      refine ⟨n1 ++ m :: n2, w1.append (.cons hL w2), ?_, fun k hk => ?_⟩
      · rw [List.nodup_append, List.nodup_cons]
        refine ⟨d1, ⟨fun z => hmi (s2 m z), d2⟩, fun a ha b hb => ?_⟩
        rcases List.mem_cons.mp hb with rfl | hb
        · exact fun z => hmi (z ▸ s1 a ha)
        · rintro rfl
          obtain ⟨l1, l2, u1, v1, el, x1, x2, x3⟩ := w1.cut ha
          obtain ⟨k1, k2, u2, v2, ek, z1, z2, z3⟩ := w2.cut hb
          have e1 : jn ts is u u1 := x1.joined fun k hk => s1 k (by rw [el]; exact List.mem_append_left _ hk)
          have e2 : jn ts is v2 v := z3.joined fun k hk => s2 k (by rw [ek]; exact List.mem_append_right _ (List.mem_cons_of_mem _ hk))
          have e3 : jn ts is u2 v2 := z2.foldR (s2 a hb)
          have e4 : jn ts is u1 v1 := x2.foldR (s1 a ha)
          have e5 : jn ts is u1 v2 := by
            rcases x2 with x2 | x2 <;> rcases z2 with z2 | z2 <;> rw [x2] at z2
            · cases z2; exact e4
            · have := Prod.mk.inj z2; rw [this.1]
            · have := Prod.mk.inj z2; rw [← this.2]
            · cases z2; exact e4
          exact h3 (e1.trans (e5.trans e2))
      · rcases List.mem_append.mp hk with hk | hk
        · exact List.mem_append_left _ (s1 k hk)
        · rcases List.mem_cons.mp hk with rfl | hk
          · exact List.mem_append_right _ List.mem_cons_self
          · exact List.mem_append_left _ (s2 k hk)
    have h : (if foldR (fun x => x) (pick ts is) x = foldR (fun x => x) (pick ts is) (tk ts m).2 then foldR (fun x => x) (pick ts is) (tk ts m).1 else foldR (fun x => x) (pick ts is) x) = (if foldR (fun x => x) (pick ts is) y = foldR (fun x => x) (pick ts is) (tk ts m).2 then foldR (fun x => x) (pick ts is) (tk ts m).1 else foldR (fun x => x) (pick ts is) y) := h
    by_cases c1 : jn ts is x (tk ts m).2
    · by_cases c2 : jn ts is y (tk ts m).2
      · exact absurd (c1.trans c2.symm) c
      · rw [if_pos c1, if_neg c2] at h
        exact go x y (tk ts m).2 (tk ts m).1 c1 h c (.inr rfl)
    · by_cases c2 : jn ts is y (tk ts m).2
      · rw [if_neg c1, if_pos c2] at h
        exact go x y (tk ts m).1 (tk ts m).2 h c2.symm c (.inl rfl)
      · rw [if_neg c1, if_neg c2] at h
        exact absurd h c
theorem ring_exists {ts : List (Int × Int)} {ms : List Int} (hn : ms.Nodup) {x y : Int} (h : jn ts ms x y) : ∃ ns, IsRing ts ms x y ns := by
  obtain ⟨ns, w, nd, hm⟩ := way_of _ ms rfl hn x y h
  exact ⟨ns, w, nd, hm⟩
/-- a forest: its ties by their numbers -/
structure Fo (ts : List (Int × Int)) (ms : List Int) : Prop where
  nd : ms.Nodup
  rl : ringlessF (fun x => x) (pick ts ms) = true
/-- x is on the ring that a closes in ms -/
def OnR (ts : List (Int × Int)) (ms : List Int) (a x : Int) : Prop := x ∈ ms ∧ ¬ jn ts (but x ms) (tk ts a).1 (tk ts a).2
theorem Fo.same {ts : List (Int × Int)} {ms ns : List Int} (h : Fo ts ms) (hn : ns.Nodup) (hm : ∀ x, x ∈ ns ↔ x ∈ ms) : Fo ts ns := by
  have p : ns.Perm ms := (List.perm_ext_iff_of_nodup hn h.nd).mpr hm
  refine ⟨hn, ?_⟩
  exact (ringlessF_perm (show (pick ts ns).Perm (pick ts ms) from p.map _) _).trans h.rl
theorem Fo.but {ts : List (Int × Int)} {ms : List Int} (h : Fo ts ms) (b : Int) : Fo ts (but b ms) :=
  ⟨h.nd.filter _, ringlessF_sub (List.filter_sublist.map _) h.rl⟩
theorem Fo.add {ts : List (Int × Int)} {ms : List Int} {a : Int} (h : Fo ts ms) (ha : a ∉ ms) (hj : ¬ jn ts ms (tk ts a).1 (tk ts a).2) : Fo ts (ms ++ [a]) := by
  refine ⟨?_, ?_⟩
  · rw [List.nodup_append]
    exact ⟨h.nd, by simp, fun x hx y hy => by rw [List.mem_singleton.mp hy]; exact fun z => ha (z ▸ hx)⟩
  · rw [pick_append]
    show ringlessF _ (pick ts ms ++ [tk ts a]) = true
    rw [ringlessF_more h.rl, decide_eq_false hj]
    rfl
theorem jn_sub {ts : List (Int × Int)} {ms ns : List Int} (h : ∀ x ∈ ms, x ∈ ns) {x y : Int} (hj : jn ts ms x y) : jn ts ns x y := foldR_sub (fun t ht => by
  obtain ⟨m, hm, rfl⟩ := List.mem_map.mp ht
  exact List.mem_map.mpr ⟨m, h m hm, rfl⟩) x y hj
theorem OnR.not_in {ts : List (Int × Int)} {ms : List Int} {a b : Int} (h : OnR ts ms a b) (ha : a ∉ ms) : a ∉ FF.but b ms := fun z => ha (mem_but.mp z).1
theorem Fo.swap {ts : List (Int × Int)} {ms : List Int} {a b : Int} (h : Fo ts ms) (ha : a ∉ ms) (hb : OnR ts ms a b) : Fo ts (FF.but b ms ++ [a]) := (h.but b).add (hb.not_in ha) hb.2
/-- the ring of another tie stays, if what goes is not on it -/
theorem ring_stays {ts : List (Int × Int)} {ms ns : List Int} {a : Int} (h : Fo ts ms) (h' : Fo ts ns) (hj : jn ts ms (tk ts a).1 (tk ts a).2) (hs : ∀ x, OnR ts ms a x → x ∈ ns) : jn ts ns (tk ts a).1 (tk ts a).2 ∧ ∀ x, OnR ts ns a x ↔ OnR ts ms a x := by
  obtain ⟨rs, hR⟩ := ring_exists h.nd hj
  have h1 := hR.mem_iff h.rl h.nd
  have hR' : IsRing ts ns (tk ts a).1 (tk ts a).2 rs := ⟨hR.way, hR.nd, fun m hm => hs m ((h1 m).mp hm)⟩
  have h2 := hR'.mem_iff h'.rl h'.nd
  exact ⟨hR'.way.joined hR'.mem, fun x => (h2 x).symm.trans (h1 x)⟩
theorem OnR.jn {ts : List (Int × Int)} {ms : List Int} {a b : Int} (_ : OnR ts ms a b) (hj : jn ts ms (tk ts a).1 (tk ts a).2) : FF.jn ts ms (tk ts a).1 (tk ts a).2 := hj
/-- several exchanges one after another: each next pair of the list comes earlier in the row -/
theorem Fo.swaps {ts : List (Int × Int)} : ∀ (ps : List (Int × Int)) {ms : List Int}, Fo ts ms → (ps.map Prod.fst).Nodup → (∀ p ∈ ps, p.1 ∉ ms ∧ FF.jn ts ms (tk ts p.1).1 (tk ts p.1).2 ∧ OnR ts ms p.1 p.2) → ps.Pairwise (fun p q => ¬ OnR ts ms q.1 p.2) → ∃ ns, Fo ts ns ∧ ∀ x, x ∈ ns ↔ (x ∈ ms ∧ x ∉ ps.map Prod.snd) ∨ x ∈ ps.map Prod.fst
  | [], ms, h, _, _, _ => ⟨ms, h, fun x => by simp⟩
  | (a, b) :: ps, ms, h, hnd, hp, hw => by
    obtain ⟨ha, hj, hb⟩ := hp (a, b) List.mem_cons_self
    obtain ⟨w1, w2⟩ := List.pairwise_cons.mp hw
    obtain ⟨n1, n2⟩ := List.nodup_cons.mp (show (a :: ps.map Prod.fst).Nodup from hnd)
    have h' := h.swap ha hb
    have keep : ∀ p ∈ ps, FF.jn ts (FF.but b ms ++ [a]) (tk ts p.1).1 (tk ts p.1).2 ∧ ∀ x, OnR ts (FF.but b ms ++ [a]) p.1 x ↔ OnR ts ms p.1 x := fun p hpm => by
      obtain ⟨_, hj', _⟩ := hp p (List.mem_cons_of_mem _ hpm)
      refine ring_stays h h' hj' fun x hx => List.mem_append_left _ (mem_but.mpr ⟨hx.1, fun z => w1 p hpm (z ▸ hx)⟩)
    obtain ⟨ns, hF, hm⟩ := Fo.swaps ps h' n2 (fun p hpm => by
      obtain ⟨p1, p2, p3⟩ := hp p (List.mem_cons_of_mem _ hpm)
      obtain ⟨k1, k2⟩ := keep p hpm
      refine ⟨fun z => ?_, k1, (k2 _).mpr p3⟩
      rcases List.mem_append.mp z with z | z
      · exact p1 (mem_but.mp z).1
      · exact n1 (List.mem_map.mpr ⟨p, hpm, List.mem_singleton.mp z⟩)) (w2.imp_of_mem fun {p q} hpm hqm hpq => fun z => hpq (((keep q hqm).2 _).mp z))
    refine ⟨ns, hF, fun x => ?_⟩
    rw [hm x, List.mem_append, mem_but, List.mem_singleton, List.map_cons, List.map_cons, List.mem_cons, List.mem_cons]
    constructor
    · rintro (⟨⟨x1, x2⟩ | x1, x3⟩ | x1)
      · exact .inl ⟨x1, fun z => z.elim x2 x3⟩
      · exact .inr (.inl x1)
      · exact .inr (.inr x1)
    · rintro (⟨x1, x2⟩ | x1 | x1)
      · exact .inl ⟨.inl ⟨x1, fun z => x2 (.inl z)⟩, fun z => x2 (.inr z)⟩
      · refine .inl ⟨.inr x1, fun z => ?_⟩
        obtain ⟨p, hpm, e⟩ := List.mem_map.mp z
        have := (hp p (List.mem_cons_of_mem _ hpm)).2.2.1
        rw [e, x1] at this
        exact ha this
      · exact .inr x1
end FF
namespace FF
open PySem PySem.Spec PyProof.Rows L2
variable [LT]
/-- a laying after pushes -/
def pushL (ws : List V) (es : List (Int × Int)) : List V := es.foldl (fun w e => w.set e.1.toNat (.int e.2)) ws
theorem pushL_length (es : List (Int × Int)) : ∀ ws : List V, (pushL ws es).length = ws.length := by
  induction es with
  | nil => exact fun _ => rfl
  | cons e es ih => exact fun ws => (ih _).trans List.length_set
theorem nums_iff {f : Int} {ws : List V} {x : Int} : x ∈ numsFrom f 0 ws ↔ 0 ≤ x ∧ ws[x.toNat]? = some (.int f) := by
  constructor
  · intro h
    obtain ⟨k, e, hk⟩ := nums_at h
    have := nums_bd f 0 ws x h
    rw [show x.toNat = k by omega]
    exact ⟨by omega, hk⟩
  · rintro ⟨h0, h⟩
    have := mem_nums (i := 0) h
    rw [Nat.zero_add, Int.toNat_of_nonneg h0] at this
    exact this
theorem fo_nums {ts : List (Int × Int)} {ws : List V} {f : Int} (hl : ws.length = ts.length) : Fo ts (numsFrom f 0 ws) ↔ ringlessF (fun x => x) (layerOf ts ws f) = true := by
  have e : pick ts (numsFrom f 0 ws) = layerOf ts ws f := pick_nums f [] ts ws hl.symm
  exact ⟨fun h => by rw [← e]; exact h.rl, fun h => ⟨nums_nd f 0 ws, by rw [e]; exact h⟩⟩
theorem jn_join {ts : List (Int × Int)} {ws : List V} {e : Int × Int} (hl : ws.length = ts.length) : joinB ts ws e = true ↔ jn ts (numsFrom e.2 0 ws) (tk ts e.1).1 (tk ts e.1).2 := by
  unfold joinB jn
  rw [decide_eq_true_eq, show pick ts (numsFrom e.2 0 ws) = layerOf ts ws e.2 from pick_nums e.2 [] ts ws hl.symm]
/-! ### what a row without short cuts makes of a laying -/
theorem pushL_in : ∀ (es : List (Int × Int)) {ws : List V} {e : Int × Int}, (es.map Prod.fst).Nodup → (∀ e ∈ es, 0 ≤ e.1 ∧ e.1 < (ws.length : Int)) → e ∈ es → (pushL ws es)[e.1.toNat]? = some (.int e.2)
  | d :: es, ws, e, hn, hb, he => by
    obtain ⟨n1, n2⟩ := List.nodup_cons.mp (show (d.1 :: es.map Prod.fst).Nodup from hn)
    show (pushL (ws.set d.1.toNat (.int d.2)) es)[e.1.toNat]? = _
    have hb' : ∀ e ∈ es, 0 ≤ e.1 ∧ e.1 < ((ws.set d.1.toNat (.int d.2)).length : Int) := fun e' h' => by rw [List.length_set]; exact hb e' (List.mem_cons_of_mem _ h')
    rcases List.mem_cons.mp he with rfl | he
    · rw [pushL_out es (fun z => n1 z) hb' (hb e List.mem_cons_self).1]
      have := hb e List.mem_cons_self
      exact List.getElem?_set_self (by omega)
    · exact pushL_in es n2 hb' he
where
  pushL_out : ∀ (es : List (Int × Int)) {ws : List V} {x : Int}, x ∉ es.map Prod.fst → (∀ e ∈ es, 0 ≤ e.1 ∧ e.1 < (ws.length : Int)) → 0 ≤ x → (pushL ws es)[x.toNat]? = ws[x.toNat]?
    | [], _, _, _, _, _ => rfl
    | d :: es, ws, x, hx, hb, x0 => by
      have hx : x ∉ d.1 :: es.map Prod.fst := hx
      have h1 : x ≠ d.1 := fun z => hx (by rw [z]; exact List.mem_cons_self)
      have h2 : x ∉ es.map Prod.fst := fun z => hx (List.mem_cons_of_mem _ z)
      show (pushL (ws.set d.1.toNat (.int d.2)) es)[x.toNat]? = _
      rw [pushL_out es h2 (fun e' h' => by rw [List.length_set]; exact hb e' (List.mem_cons_of_mem _ h')) x0]
      have := (hb d List.mem_cons_self).1
      exact List.getElem?_set_ne (by omega)
def pairsF (f : Int) : List (Int × Int) → List (Int × Int)
  | e :: e' :: r => (if e.2 = f then [(e.1, e'.1)] else []) ++ pairsF f (e' :: r)
  | _ => []
/-- no short cut -/
def NoCut (ts : List (Int × Int)) (ws : List V) : List (Int × Int) → Prop
  | [] => True
  | e :: r => (∀ q ∈ r.tail, ¬ OnRing ts ws e q.1) ∧ NoCut ts ws r
theorem pairs_snd {f : Int} : ∀ {e : Int × Int} {r : List (Int × Int)} {p : Int × Int}, p ∈ pairsF f (e :: r) → ∃ q ∈ r, q.1 = p.2
  | e, e' :: r, p, h => by
    rcases List.mem_append.mp (show p ∈ (if e.2 = f then [(e.1, e'.1)] else []) ++ pairsF f (e' :: r) from h) with h | h
    · split at h
      · rw [List.mem_singleton.mp h]
        exact ⟨e', List.mem_cons_self, rfl⟩
      · cases h
    · obtain ⟨q, hq, e⟩ := pairs_snd h
      exact ⟨q, List.mem_cons_of_mem _ hq, e⟩
theorem pairs_fst {f : Int} : ∀ {es : List (Int × Int)}, ((pairsF f es).map Prod.fst).Sublist (es.map Prod.fst)
  | [] => .refl _
  | [e] => List.nil_sublist _
  | e :: e' :: r => by
    have ih := pairs_fst (f := f) (es := e' :: r)
    show (((if e.2 = f then [(e.1, e'.1)] else []) ++ pairsF f (e' :: r)).map Prod.fst).Sublist (e.1 :: (e' :: r).map Prod.fst)
    rw [List.map_append]
    split
    · exact ih.cons₂ _
    · exact ih.cons _
theorem pairs_ok {ts : List (Int × Int)} {ws : List V} {f : Int} (hl : ws.length = ts.length) : ∀ {es : List (Int × Int)}, pushB ts ws es = true → ∀ p ∈ pairsF f es, (p.1, f) ∈ es ∧ jn ts (numsFrom f 0 ws) (tk ts p.1).1 (tk ts p.1).2 ∧ OnR ts (numsFrom f 0 ws) p.1 p.2
  | e :: e' :: r, h, p, hp => by
    have h : ((joinB ts ws e && @decide (OnRing ts ws e e'.1) (Classical.propDecidable _)) && pushB ts ws (e' :: r)) = true := h
    rw [Bool.and_eq_true, Bool.and_eq_true] at h
    obtain ⟨⟨h1, h2⟩, h3⟩ := h
    rcases List.mem_append.mp (show p ∈ (if e.2 = f then [(e.1, e'.1)] else []) ++ pairsF f (e' :: r) from hp) with hp | hp
    · split at hp
      · rename_i ef
        rw [List.mem_singleton.mp hp]
        subst ef
        exact ⟨List.mem_cons_self, (jn_join hl).mp h1, @of_decide_eq_true _ (Classical.propDecidable _) h2⟩
      · cases hp
    · obtain ⟨a, b, c⟩ := pairs_ok hl h3 p hp
      exact ⟨List.mem_cons_of_mem _ a, b, c⟩
theorem pairs_apart {ts : List (Int × Int)} {ws : List V} {f : Int} : ∀ {es : List (Int × Int)}, NoCut ts ws es → (pairsF f es).Pairwise fun p q => ¬ OnR ts (numsFrom f 0 ws) p.1 q.2
  | [], _ => .nil
  | [e], _ => .nil
  | e :: e' :: r, h => by
    have ih := pairs_apart (f := f) (es := e' :: r) h.2
    show ((if e.2 = f then [(e.1, e'.1)] else []) ++ pairsF f (e' :: r)).Pairwise _
    rw [List.pairwise_append]
    refine ⟨by split <;> simp, ih, fun p hp q hq => ?_⟩
    split at hp
    · rename_i ef
      rw [List.mem_singleton.mp hp]
      obtain ⟨q', hq', e2⟩ := pairs_snd hq
      subst ef
      have := h.1 q' hq'
      rw [e2] at this
      exact this
    · cases hp
theorem pairs_has {f : Int} : ∀ {es : List (Int × Int)} {e : Int × Int}, e ∈ es → e.2 = f → (∃ b, (e.1, b) ∈ pairsF f es) ∨ es.getLast? = some e
  | [d], e, he, _ => .inr (by rw [List.mem_singleton.mp he]; rfl)
  | d :: d' :: r, e, he, ef => by
    rcases List.mem_cons.mp he with rfl | he
    · refine .inl ⟨d'.1, ?_⟩
      show (e.1, d'.1) ∈ (if e.2 = f then [(e.1, d'.1)] else []) ++ pairsF f (d' :: r)
      rw [if_pos ef]
      exact List.mem_cons_self
    · rcases pairs_has he ef with ⟨b, hb⟩ | h
      · exact .inl ⟨b, List.mem_append_right _ hb⟩
      · exact .inr (by rw [List.getLast?_cons_cons]; exact h)
/-- what is pushed away from a forest -/
theorem pairs_gone {ts : List (Int × Int)} {ws : List V} {f : Int} : ∀ {e : Int × Int} {r : List (Int × Int)}, pushB ts ws (e :: r) = true → ∀ q ∈ r, q.1 ∈ numsFrom f 0 ws → q.1 ∈ (pairsF f (e :: r)).map Prod.snd
  | e, e' :: r, h, q, hq, hm => by
    have h : ((joinB ts ws e && @decide (OnRing ts ws e e'.1) (Classical.propDecidable _)) && pushB ts ws (e' :: r)) = true := h
    rw [Bool.and_eq_true, Bool.and_eq_true] at h
    obtain ⟨⟨h1, h2⟩, h3⟩ := h
    show q.1 ∈ (((if e.2 = f then [(e.1, e'.1)] else []) ++ pairsF f (e' :: r)).map Prod.snd)
    rw [List.map_append, List.mem_append]
    rcases List.mem_cons.mp hq with rfl | hq
    · have h2 : OnRing ts ws e q.1 := @of_decide_eq_true _ (Classical.propDecidable _) h2
      have a := (nums_iff.mp h2.1).2
      have b := (nums_iff.mp hm).2
      rw [a] at b
      have ef : e.2 = f := V.int.inj (Option.some.inj b)
      rw [if_pos ef]
      exact .inl List.mem_cons_self
    · exact .inr (pairs_gone h3 q hq hm)
theorem push_last {ts : List (Int × Int)} {ws : List V} : ∀ {es : List (Int × Int)} {e : Int × Int}, pushB ts ws es = true → es.getLast? = some e → joinB ts ws e = false
  | [d], e, h, hl => by
    have h : (!joinB ts ws d) = true := h
    have : d = e := Option.some.inj hl
    subst this
    cases e : joinB ts ws d with
    | false => rfl
    | true => rw [e] at h; cases h
  | d :: d' :: r, e, h, hl => by
    have h : ((joinB ts ws d && @decide (OnRing ts ws d d'.1) (Classical.propDecidable _)) && pushB ts ws (d' :: r)) = true := h
    rw [Bool.and_eq_true] at h
    rw [List.getLast?_cons_cons] at hl
    exact push_last h.2 hl
theorem pairs_not_last {f : Int} : ∀ {es : List (Int × Int)} {p e : Int × Int}, (es.map Prod.fst).Nodup → p ∈ pairsF f es → es.getLast? = some e → p.1 ≠ e.1
  | d :: d' :: r, p, e, hn, hp, hl => by
    obtain ⟨n1, n2⟩ := List.nodup_cons.mp (show (d.1 :: (d' :: r).map Prod.fst).Nodup from hn)
    rw [List.getLast?_cons_cons] at hl
    rcases List.mem_append.mp (show p ∈ (if d.2 = f then [(d.1, d'.1)] else []) ++ pairsF f (d' :: r) from hp) with hp | hp
    · split at hp
      · rw [List.mem_singleton.mp hp]
        exact fun z => n1 (List.mem_map.mpr ⟨e, List.mem_of_getLast? hl, z.symm⟩)
      · cases hp
    · exact pairs_not_last n2 hp hl
/-- a row of pushes without short cuts leaves no ring -/
theorem row_lays {ts : List (Int × Int)} {ws : List V} {e0 : Int × Int} {r : List (Int × Int)} (hl : ws.length = ts.length) (hf : ∀ f, ringlessF (fun x => x) (layerOf ts ws f) = true) (hn : ((e0 :: r).map Prod.fst).Nodup) (hb : ∀ e ∈ e0 :: r, 0 ≤ e.1 ∧ e.1 < (ts.length : Int)) (hlay : ∀ e ∈ e0 :: r, layB ws e = false) (hp : pushB ts ws (e0 :: r) = true) (h0 : ws[e0.1.toNat]? = some .non) (hc : NoCut ts ws (e0 :: r)) (f : Int) : ringlessF (fun x => x) (layerOf ts (pushL ws (e0 :: r)) f) = true := by
  have hb' : ∀ e ∈ e0 :: r, 0 ≤ e.1 ∧ e.1 < (ws.length : Int) := fun e he => by rw [hl]; exact hb e he
  rw [← fo_nums ((pushL_length _ _).trans hl)]
  have hF := (fo_nums hl).mpr (hf f)
  have hout : ∀ e ∈ e0 :: r, e.2 = f → e.1 ∉ numsFrom f 0 ws := fun e he ef z => by
    have := hlay e he
    unfold layB at this
    rw [ef, (nums_iff.mp z).2, decide_eq_true rfl] at this
    cases this
  have hps := pairs_ok (f := f) hl hp
  have hap := pairs_apart (f := f) hc
  have hnd := hn.sublist (pairs_fst (f := f) (es := e0 :: r))
  -- a free tie at the end
  obtain ⟨ms, hM, hms, hkeep⟩ : ∃ ms, Fo ts ms ∧ (∀ x, x ∈ ms ↔ x ∈ numsFrom f 0 ws ∨ ∃ e, (e0 :: r).getLast? = some e ∧ e.2 = f ∧ e.1 = x) ∧ ∀ p ∈ pairsF f (e0 :: r), p.1 ∉ ms ∧ jn ts ms (tk ts p.1).1 (tk ts p.1).2 ∧ ∀ x, OnR ts ms p.1 x ↔ OnR ts (numsFrom f 0 ws) p.1 x := by
    by_cases c : ∃ e, (e0 :: r).getLast? = some e ∧ e.2 = f
    · obtain ⟨e, he, ef⟩ := c
      have hem := List.mem_of_getLast? he
      have hj : ¬ jn ts (numsFrom f 0 ws) (tk ts e.1).1 (tk ts e.1).2 := fun z => by
        have := push_last hp he
        subst ef
        rw [(jn_join hl).mpr z] at this
        cases this
      have hM := hF.add (hout e hem ef) hj
      refine ⟨_, hM, fun x => ?_, fun p hpm => ?_⟩
      · rw [List.mem_append, List.mem_singleton]
        constructor
        · rintro (h | h)
          · exact .inl h
          · exact .inr ⟨e, he, ef, h.symm⟩
        · rintro (h | ⟨e', h1, _, h3⟩)
          · exact .inl h
          · rw [he] at h1
            cases h1
            exact .inr h3.symm
      · obtain ⟨p1, p2, p3⟩ := hps p hpm
        refine ⟨fun z => ?_, ring_stays hF hM p2 fun x hx => List.mem_append_left _ hx.1⟩
        rcases List.mem_append.mp z with z | z
        · exact hout (p.1, f) p1 rfl z
        · exact pairs_not_last hn hpm he (List.mem_singleton.mp z)
    · refine ⟨_, hF, fun x => ⟨.inl, fun h => h.elim id fun ⟨e, h1, h2, _⟩ => absurd ⟨e, h1, h2⟩ c⟩, fun p hpm => ?_⟩
      obtain ⟨p1, p2, p3⟩ := hps p hpm
      exact ⟨hout (p.1, f) p1 rfl, p2, fun _ => Iff.rfl⟩
  obtain ⟨ns, hN, hns⟩ := Fo.swaps (pairsF f (e0 :: r)).reverse hM (by rw [List.map_reverse]; exact (List.reverse_perm _).nodup_iff.mpr hnd) (fun p hpm => by
    have hpm := List.mem_reverse.mp hpm
    obtain ⟨a, b, c⟩ := hkeep p hpm
    exact ⟨a, b, (c _).mpr (hps p hpm).2.2⟩) (by
    rw [List.pairwise_reverse]
    exact hap.imp_of_mem fun {p q} hpm hqm hpq => fun z => hpq (((hkeep p hpm).2.2 _).mp z))
  refine hN.same (nums_nd _ _ _) fun x => ?_
  rw [hns x, hms x, List.map_reverse, List.map_reverse, List.mem_reverse, List.mem_reverse]
  have hgone : ∀ y, y ∈ (pairsF f (e0 :: r)).map Prod.snd → y ∈ numsFrom f 0 ws ∧ y ∈ (e0 :: r).map Prod.fst := fun y hy => by
    obtain ⟨p, hpm, rfl⟩ := List.mem_map.mp hy
    obtain ⟨q, hq, e⟩ := pairs_snd hpm
    exact ⟨(hps p hpm).2.2.1, List.mem_map.mpr ⟨q, List.mem_cons_of_mem _ hq, e⟩⟩
  constructor
  · intro h
    obtain ⟨x0, hx⟩ := nums_iff.mp h
    by_cases c : x ∈ (e0 :: r).map Prod.fst
    · obtain ⟨e, he, rfl⟩ := List.mem_map.mp c
      rw [pushL_in _ hn hb' he] at hx
      have ef : e.2 = f := V.int.inj (Option.some.inj hx)
      rcases pairs_has he ef with ⟨b, hbm⟩ | hla
      · exact .inr (List.mem_map.mpr ⟨_, hbm, rfl⟩)
      · exact .inl ⟨.inr ⟨e, hla, ef, rfl⟩, fun z => hout e he ef (hgone _ z).1⟩
    · rw [pushL_in.pushL_out _ c hb' x0] at hx
      exact .inl ⟨.inl (nums_iff.mpr ⟨x0, hx⟩), fun z => c (hgone _ z).2⟩
  · rintro (⟨h | ⟨e, h1, h2, rfl⟩, hx⟩ | h)
    · obtain ⟨x0, hw⟩ := nums_iff.mp h
      refine nums_iff.mpr ⟨x0, ?_⟩
      rw [pushL_in.pushL_out _ (fun z => ?_) hb' x0]
      · exact hw
      · obtain ⟨q, hq, rfl⟩ := List.mem_map.mp z
        rcases List.mem_cons.mp hq with rfl | hq
        · rw [h0] at hw
          cases hw
        · exact hx (pairs_gone hp q hq h)
    · have hem := List.mem_of_getLast? h1
      exact nums_iff.mpr ⟨(hb e hem).1, by rw [pushL_in _ hn hb' hem, h2]⟩
    · obtain ⟨p, hpm, rfl⟩ := List.mem_map.mp h
      have := (hps p hpm).1
      exact nums_iff.mpr ⟨(hb _ this).1, pushL_in _ hn hb' this⟩
end FF
namespace FF
open PySem PySem.Spec PyProof.Rows L2
variable [LT]
/-! ### what is reached and closed is full -/
theorem nub_one {ls : List Int} {g : Int → Int} (hne : ls ≠ []) (h : ∀ x ∈ ls, ∀ y ∈ ls, g x = g y) : (nub (ls.map g)).length = 1 := by
  cases ls with
  | nil => exact absurd rfl hne
  | cons x r =>
    have : (nub ((x :: r).map g)).length = [g x].length := nd_eq (nub_nd _) (by simp) fun k => by
      rw [mem_nub, List.mem_singleton]
      constructor
      · intro hk
        obtain ⟨y, hy, rfl⟩ := List.mem_map.mp hk
        exact h y hy x List.mem_cons_self
      · rintro rfl
        exact List.mem_map.mpr ⟨x, List.mem_cons_self, rfl⟩
    exact this
theorem tree_count {ts : List (Int × Int)} {ms : List Int} {ls : List Int} (h : Fo ts ms) (hin : ∀ m ∈ ms, (tk ts m).1 ∈ ls ∧ (tk ts m).2 ∈ ls) (hn : ls.Nodup) (hne : ls ≠ []) (hj : ∀ x ∈ ls, ∀ y ∈ ls, jn ts ms x y) : ms.length + 1 = ls.length := by
  have := lot_count (ls := ls) h.rl fun t ht => by
    obtain ⟨m, hm, rfl⟩ := List.mem_map.mp ht
    exact hin m hm
  rw [nub_one hne hj, List.map_id', nub_of_nd hn, pick_length] at this
  exact this
/-- ties that are reached: closed under pushes, and hanging together -/
structure Closed (ts : List (Int × Int)) (ws : List V) (k : Int) (R : List Int) : Prop where
  nd : R.Nodup
  rng : ∀ t ∈ R, 0 ≤ t ∧ t < (ts.length : Int)
  ring : ∀ t ∈ R, ∀ f, 0 ≤ f → f < k → ws[t.toNat]? ≠ some (.int f) → jn ts (numsFrom f 0 ws) (tk ts t).1 (tk ts t).2 ∧ ∀ x, OnR ts (numsFrom f 0 ws) t x → x ∈ R
  one : ∀ t ∈ R, ∀ s ∈ R, jn ts R (tk ts t).1 (tk ts s).1
/-- the ends of some ties -/
structure EndsOf (ts : List (Int × Int)) (R : List Int) (ls : List Int) : Prop where
  nd : ls.Nodup
  mem : ∀ x, x ∈ ls ↔ ∃ t ∈ R, x = (tk ts t).1 ∨ x = (tk ts t).2
theorem Closed.joins {ts : List (Int × Int)} {ws : List V} {k : Int} {R ls : List Int} (h : Closed ts ws k R) (hE : EndsOf ts R ls) {x y : Int} (hx : x ∈ ls) (hy : y ∈ ls) : jn ts R x y := by
  have go : ∀ z ∈ ls, ∃ t ∈ R, jn ts R z (tk ts t).1 := fun z hz => by
    obtain ⟨t, ht, e⟩ := (hE.mem z).mp hz
    refine ⟨t, ht, ?_⟩
    rcases e with rfl | rfl
    · rfl
    · exact (Leads.foldR (ts := ts) ht (.inl rfl)).symm
  obtain ⟨t, ht, e1⟩ := go x hx
  obtain ⟨s, hs, e2⟩ := go y hy
  exact e1.trans ((h.one t ht s hs).trans e2.symm)
/-- in each forest the reached ties are a tree on their ends -/
theorem Closed.tree {ts : List (Int × Int)} {ws : List V} {k : Int} {R ls : List Int} (hl : ws.length = ts.length) (h : Closed ts ws k R) (hE : EndsOf ts R ls) (hne : R ≠ []) (hf : ∀ f, ringlessF (fun x => x) (layerOf ts ws f) = true) {f : Int} (f0 : 0 ≤ f) (f1 : f < k) : inside ls (layerOf ts ws f) + 1 = ls.length := by
  have hF := (fo_nums hl).mpr (hf f)
  have hFo : Fo ts ((numsFrom f 0 ws).filter fun m => decide (m ∈ R)) := ⟨hF.nd.filter _, ringlessF_sub (List.filter_sublist.map _) hF.rl⟩
  have hlne : ls ≠ [] := by
    cases R with
    | nil => exact absurd rfl hne
    | cons t r => exact fun z => by have := (hE.mem (tk ts t).1).mpr ⟨t, List.mem_cons_self, .inl rfl⟩; rw [z] at this; cases this
  have hj : ∀ x ∈ ls, ∀ y ∈ ls, jn ts ((numsFrom f 0 ws).filter fun m => decide (m ∈ R)) x y := fun x hx y hy => by
    refine foldR_fine (g := foldR (fun x => x) (pick ts ((numsFrom f 0 ws).filter fun m => decide (m ∈ R)))) (L := pick ts R) (r := fun x => x) (fun a b e => by rw [show a = b from e]) (fun t ht => ?_) x y (h.joins hE hx hy)
    obtain ⟨m, hm, rfl⟩ := List.mem_map.mp ht
    by_cases c : ws[m.toNat]? = some (.int f)
    · have : m ∈ (numsFrom f 0 ws).filter fun m => decide (m ∈ R) := List.mem_filter.mpr ⟨nums_iff.mpr ⟨(h.rng m hm).1, c⟩, decide_eq_true hm⟩
      exact Leads.foldR (ts := ts) this (.inl rfl)
    · obtain ⟨j1, j2⟩ := h.ring m hm f f0 f1 c
      obtain ⟨ns, hR⟩ := ring_exists hF.nd j1
      have h1 := hR.mem_iff hF.rl hF.nd
      exact hR.way.joined fun x hx => List.mem_filter.mpr ⟨hR.mem x hx, decide_eq_true (j2 x ((h1 x).mp hx))⟩
  have h1 := tree_count hFo (fun m hm => by
    have := of_decide_eq_true (List.mem_filter.mp hm).2
    exact ⟨(hE.mem _).mpr ⟨m, this, .inl rfl⟩, (hE.mem _).mpr ⟨m, this, .inr rfl⟩⟩) hE.nd hlne hj
  have h2 := inside_forest (hf f) hE.nd hlne
  have h3 : ((numsFrom f 0 ws).filter fun m => decide (m ∈ R)).length ≤ inside ls (layerOf ts ws f) := by
    have e : layerOf ts ws f = pick ts (numsFrom f 0 ws) := (pick_nums f [] ts ws hl.symm).symm
    unfold inside
    rw [e]
    unfold pick
    rw [List.filter_map, List.length_map]
    refine (List.Sublist.length_le ?_)
    rw [show ((numsFrom f 0 ws).filter fun m => decide (m ∈ R)) = ((numsFrom f 0 ws).filter ((fun t => decide (t.1 ∈ ls) && decide (t.2 ∈ ls)) ∘ fun m => ts.getD m.toNat (0, 0))).filter fun m => decide (m ∈ R) from ?_]
    · exact List.filter_sublist
    · rw [List.filter_filter]
      apply List.filter_congr
      intro m _
      by_cases c : m ∈ R
      · rw [decide_eq_true c]
        show true = (true && (decide ((tk ts m).1 ∈ ls) && decide ((tk ts m).2 ∈ ls)))
        rw [decide_eq_true ((hE.mem _).mpr ⟨m, c, .inl rfl⟩), decide_eq_true ((hE.mem _).mpr ⟨m, c, .inr rfl⟩)]
        rfl
      · rw [decide_eq_false c]
        rfl
  omega
end FF
namespace FF
open PySem PySem.Spec PyProof.Rows L2
variable [LT]
theorem laid_inside (ls : List Int) : ∀ {ts : List (Int × Int)} {ws : List V}, inside ls (laidT ts ws) ≤ inside ls ts
  | [], ws => by
    unfold laidT
    rw [List.zip_nil_left]
    exact Nat.le_refl _
  | t :: ts, [] => by
    unfold laidT
    rw [List.zip_nil_right]
    exact Nat.zero_le _
  | t :: ts, x :: ws => by
    have ih := laid_inside ls (ts := ts) (ws := ws)
    rw [laidT_cons, inside_app, show t :: ts = [t] ++ ts from rfl, inside_app]
    split
    · have : inside ls [] = 0 := rfl
      omega
    · omega
theorem left_inside {ls : List Int} : ∀ {ts : List (Int × Int)} {ws : List V} {i : Nat} {t : Int × Int}, ts[i]? = some t → ws[i]? = some .non → t.1 ∈ ls → t.2 ∈ ls → inside ls (laidT ts ws) + 1 ≤ inside ls ts
  | u :: ts, x :: ws, 0, t, h1, h2, a, b => by
    cases h1
    cases h2
    rw [laidT_cons, if_pos rfl, List.nil_append, inside_cons, decide_eq_true a, decide_eq_true b]
    have := laid_inside ls (ts := ts) (ws := ws)
    show _ ≤ 1 + _
    omega
  | u :: ts, x :: ws, i + 1, t, h1, h2, a, b => by
    have ih := left_inside (ts := ts) (ws := ws) (i := i) h1 h2 a b
    rw [laidT_cons, inside_app, show u :: ts = [u] ++ ts from rfl, inside_app]
    split
    · have : inside ls [] = 0 := rfl
      omega
    · omega
  | [], _, _, _, h1, _, _, _ => by simp at h1
  | _ :: _, [], _, _, _, h2, _, _ => by simp at h2
/-- the ends of what is reached and closed are full -/
theorem Closed.full {ts : List (Int × Int)} {ws : List V} {k : Int} {R ls : List Int} (hL : LayK ts k ws) (hk : 0 ≤ k) (h : Closed ts ws k R) (hE : EndsOf ts R ls) {e : Int} (he : e ∈ R) (hn : ws[e.toNat]? = some .non) : (inside ls ts : Int) > k * ((ls.length : Int) - 1) := by
  have hne : R ≠ [] := fun z => by rw [z] at he; cases he
  have ht : (inside ls (laidT ts ws) : Int) = k * ((ls.length : Int) - 1) := by
    refine (tight_iff hL hk hE.nd ?_).mpr fun f f0 f1 => ?_
    · intro z
      have := (hE.mem (tk ts e).1).mpr ⟨e, he, .inl rfl⟩
      rw [z] at this
      cases this
    · have := h.tree hL.len hE hne hL.tree f0 f1
      omega
  have := left_inside (ls := ls) (getD_at (h.rng e he).1 (h.rng e he).2) hn ((hE.mem _).mpr ⟨e, he, .inl rfl⟩) ((hE.mem _).mpr ⟨e, he, .inr rfl⟩)
  omega
/-- a full lot lets no whole laying -/
theorem whole_inside {ts : List (Int × Int)} {ws : List V} (hl : ws.length = ts.length) (hw : ∀ x ∈ ws, x ≠ V.non) : laidT ts ws = ts := by
  induction ts generalizing ws with
  | nil =>
    unfold laidT
    rw [List.zip_nil_left]
    rfl
  | cons t ts ih =>
    cases ws with
    | nil => cases hl
    | cons x ws =>
      rw [laidT_cons, if_neg (hw x List.mem_cons_self), ih (Nat.succ.inj hl) fun y hy => hw y (List.mem_cons_of_mem _ hy)]
      rfl
theorem not_full {ts : List (Int × Int)} {k : Int} {ws : List V} (hL : LayK ts k ws) (hk : 0 ≤ k) (hw : ∀ x ∈ ws, x ≠ V.non) {ls : List Int} (hn : ls.Nodup) (hne : ls ≠ []) : (inside ls ts : Int) ≤ k * ((ls.length : Int) - 1) := by
  have e := inside_laid ls hL.len hL.each
  rw [whole_inside hL.len hw] at e
  rw [e]
  have hm := sum_most (s := (ls.length : Int) - 1) (g := fun f => (inside ls (layerOf ts ws f) : Int)) (l := upTo k) fun f _ => by
    have := inside_forest (hL.tree f) hn hne
    show (inside ls (layerOf ts ws f) : Int) ≤ _
    omega
  have hl : ((upTo k).length : Int) = k := by rw [upTo_length]; omega
  rw [hl] at hm
  exact hm.1
/-- a laying after a row of pushes without short cuts -/
theorem LayK.push {ts : List (Int × Int)} {k : Int} {ws : List V} {e0 : Int × Int} {r : List (Int × Int)} (hL : LayK ts k ws) (hn : ((e0 :: r).map Prod.fst).Nodup) (hb : ∀ e ∈ e0 :: r, (0 ≤ e.1 ∧ e.1 < (ts.length : Int)) ∧ 0 ≤ e.2 ∧ e.2 < k) (hlay : ∀ e ∈ e0 :: r, layB ws e = false) (hp : pushB ts ws (e0 :: r) = true) (h0 : ws[e0.1.toNat]? = some .non) (hc : NoCut ts ws (e0 :: r)) : LayK ts k (pushL ws (e0 :: r)) := by
  refine ⟨(pushL_length _ _).trans hL.len, ?_, row_lays hL.len hL.tree hn (fun e he => (hb e he).1) hlay hp h0 hc⟩
  have go : ∀ (es : List (Int × Int)) {ws : List V}, (∀ e ∈ es, 0 ≤ e.2 ∧ e.2 < k) → (∀ x ∈ ws, x = V.non ∨ ∃ f, x = V.int f ∧ 0 ≤ f ∧ f < k) → ∀ x ∈ pushL ws es, x = V.non ∨ ∃ f, x = V.int f ∧ 0 ≤ f ∧ f < k := fun es => by
    induction es with
    | nil => exact fun _ h => h
    | cons e es ih =>
      intro ws he h
      refine ih (ws := ws.set e.1.toNat (.int e.2)) (fun e' h' => he e' (List.mem_cons_of_mem _ h')) fun x hx => ?_
      rcases List.mem_or_eq_of_mem_set hx with hx | rfl
      · exact h x hx
      · exact .inr ⟨_, rfl, he e List.mem_cons_self⟩
  exact go _ (fun e he => (hb e he).2) hL.each
end FF
namespace FF
open PySem PySem.Spec PyProof.Rows L2
variable [LT]
/-! ### where no lot is full a whole laying is there -/
structure PRow (ts : List (Int × Int)) (ws : List V) (k : Int) (es : List (Int × Int)) : Prop where
  ne : es ≠ []
  bd : ∀ e ∈ es, (0 ≤ e.1 ∧ e.1 < (ts.length : Int)) ∧ 0 ≤ e.2 ∧ e.2 < k
  lay : ∀ e ∈ es, layB ws e = false
  push : pushB ts ws es = true
section
variable {ts : List (Int × Int)} {ws : List V} {k : Int}
theorem pushB_parts {e e' : Int × Int} {r : List (Int × Int)} : pushB ts ws (e :: e' :: r) = true ↔ joinB ts ws e = true ∧ OnRing ts ws e e'.1 ∧ pushB ts ws (e' :: r) = true := by
  show ((joinB ts ws e && @decide (OnRing ts ws e e'.1) (Classical.propDecidable _)) && pushB ts ws (e' :: r)) = true ↔ _
  rw [Bool.and_eq_true, Bool.and_eq_true, @decide_eq_true_eq _ (Classical.propDecidable _), and_assoc]
theorem PRow.tail {e e' : Int × Int} {r : List (Int × Int)} (h : PRow ts ws k (e :: e' :: r)) : PRow ts ws k (e' :: r) :=
  ⟨List.cons_ne_nil _ _, fun q hq => h.bd q (List.mem_cons_of_mem _ hq), fun q hq => h.lay q (List.mem_cons_of_mem _ hq), (pushB_parts.mp h.push).2.2⟩
theorem PRow.cons {e e' : Int × Int} {r : List (Int × Int)} (b : (0 ≤ e.1 ∧ e.1 < (ts.length : Int)) ∧ 0 ≤ e.2 ∧ e.2 < k) (l : layB ws e = false) (j : joinB ts ws e = true) (o : OnRing ts ws e e'.1) (h : PRow ts ws k (e' :: r)) : PRow ts ws k (e :: e' :: r) :=
  ⟨List.cons_ne_nil _ _, fun q hq => (List.mem_cons.mp hq).elim (fun z => z ▸ b) (h.bd q), fun q hq => (List.mem_cons.mp hq).elim (fun z => z ▸ l) (h.lay q), pushB_parts.mpr ⟨j, o, h.push⟩⟩
theorem PRow.drop : ∀ {es : List (Int × Int)} {l1 l2 : List (Int × Int)} {q : Int × Int}, PRow ts ws k es → es = l1 ++ q :: l2 → PRow ts ws k (q :: l2)
  | es, [], l2, q, h, e => by subst e; exact h
  | es, [d], l2, q, h, e => by subst e; exact PRow.tail h
  | es, d :: d' :: l1, l2, q, h, e => by subst e; exact PRow.drop (es := d' :: l1 ++ q :: l2) (PRow.tail h) rfl
/-- no row from its first tie is shorter -/
def Least (ts : List (Int × Int)) (ws : List V) (k : Int) : List (Int × Int) → Prop
  | [] => True
  | e :: r => ∀ e' r', PRow ts ws k (e' :: r') → e'.1 = e.1 → r.length ≤ r'.length
theorem Least.tail {e e' : Int × Int} {r : List (Int × Int)} (h : PRow ts ws k (e :: e' :: r)) (m : Least ts ws k (e :: e' :: r)) : Least ts ws k (e' :: r) := fun d r' hd ed => by
  have p := pushB_parts.mp h.push
  have := m e (d :: r') (PRow.cons (h.bd e List.mem_cons_self) (h.lay e List.mem_cons_self) p.1 (by rw [ed]; exact p.2.1) hd) rfl
  rw [List.length_cons, List.length_cons] at this
  omega
theorem Least.nocut : ∀ {es : List (Int × Int)}, PRow ts ws k es → Least ts ws k es → NoCut ts ws es ∧ (es.map Prod.fst).Nodup
  | [], h, _ => absurd rfl h.ne
  | [e], _, _ => ⟨⟨(fun _ z => nomatch z), trivial⟩, by simp⟩
  | e :: e' :: r, h, m => by
    obtain ⟨i1, i2⟩ := Least.nocut (PRow.tail h) (m.tail h)
    have p := pushB_parts.mp h.push
    refine ⟨⟨fun q hq z => ?_, i1⟩, ?_⟩
    · obtain ⟨l1, l2, el⟩ := List.append_of_mem (show q ∈ r from hq)
      have hd := PRow.drop (l1 := e :: e' :: l1) (l2 := l2) (q := q) h (by rw [el]; rfl)
      have := m e (q :: l2) (PRow.cons (h.bd e List.mem_cons_self) (h.lay e List.mem_cons_self) p.1 z hd) rfl
      rw [el, List.length_cons, List.length_append, List.length_cons] at this
      omega
    · show (e.1 :: (e' :: r).map Prod.fst).Nodup
      rw [List.nodup_cons]
      refine ⟨fun z => ?_, i2⟩
      obtain ⟨q, hq, eq⟩ := List.mem_map.mp z
      obtain ⟨l1, l2, el⟩ := List.append_of_mem hq
      have hd := PRow.drop (l1 := e :: l1) (l2 := l2) (q := q) h (by rw [el]; rfl)
      have := m q l2 hd eq
      rw [el, List.length_append, List.length_cons] at this
      omega
/-- what pushes come to from e -/
inductive Rch (ts : List (Int × Int)) (ws : List V) (k : Int) (e : Int) : Int → Prop where
  | base : Rch ts ws k e e
  | step {s t f : Int} (h : Rch ts ws k e s) (f0 : 0 ≤ f) (f1 : f < k) (hn : ws[s.toNat]? ≠ some (.int f)) (hj : jn ts (numsFrom f 0 ws) (tk ts s).1 (tk ts s).2) (ho : OnR ts (numsFrom f 0 ws) s t) : Rch ts ws k e t
theorem Rch.rng {e t : Int} (hl : ws.length = ts.length) (h : Rch ts ws k e t) (he : 0 ≤ e ∧ e < (ts.length : Int)) : 0 ≤ t ∧ t < (ts.length : Int) := by
  induction h with
  | base => exact he
  | step _ _ _ _ _ ho _ =>
    obtain ⟨h0, h1⟩ := nums_iff.mp ho.1
    have := (List.getElem?_eq_some_iff.mp h1).1
    exact ⟨h0, by omega⟩
theorem layB_ne {s f : Int} (h : ws[s.toNat]? ≠ some (.int f)) : layB ws (s, f) = false := decide_eq_false h
theorem Rch.back {e t : Int} (hl : ws.length = ts.length) (h : Rch ts ws k e t) (he : 0 ≤ e ∧ e < (ts.length : Int)) : (∃ d r, PRow ts ws k (d :: r) ∧ d.1 = t) → ∃ d r, PRow ts ws k (d :: r) ∧ d.1 = e := by
  induction h with
  | base => exact id
  | @step s t f hs f0 f1 hn hj ho ih =>
    rintro ⟨d, r, hp, rfl⟩
    exact ih ⟨(s, f), d :: r, PRow.cons ⟨hs.rng hl he, f0, f1⟩ (layB_ne hn) ((jn_join (e := (s, f)) hl).mpr hj) ho hp, rfl⟩
end
end FF
namespace FF
open PySem PySem.Spec PyProof.Rows L2
variable [LT]
/-! ### all ways to lay -/
end FF
namespace FF
open PySem PySem.Spec PyProof.Rows L2
variable [LT]
/-! ### things as entries and rows -/
end FF
namespace FF
open PySem PySem.Spec PyProof.Rows L2
variable [LT]
/-! ### levels, and all pushers with their rings -/
open Classical in
noncomputable def lowB (ts : List (Int × Int)) (ws : List V) (e : Int × Int) (m : Int) (ls : List Int) : Bool := if joinB ts ws e = true then decide (∀ x, OnRing ts ws e x → hat ls x ≤ hat ls e.1 + 1) else decide (hat ls e.1 ≥ m - 1)
/-- what is pushed out of forest f is low enough -/
def LowF (ts : List (Int × Int)) (ws : List V) (tie : Nat) (m : Int) (ls : List Int) (f : Int) : Prop := ∀ i : Nat, i < ts.length → (i = tie ∨ ws[i]? ≠ some .non) → ws[i]? ≠ some (.int f) → lowB ts ws ((i : Int), f) m ls = true
def LevP (ts : List (Int × Int)) (k : Int) (ws : List V) (tie : Nat) (m : Int) (ls : List Int) : Prop := hat ls (tie : Int) = 0 ∧ ∀ f, 0 ≤ f → f < k → LowF ts ws tie m ls f
end FF
namespace FF
open PySem PySem.Spec PyProof.Rows L2
variable [LT]
/-! ### slices of tuples that are known to the object -/
section
variable {X : Cx} {K : PySem.W.Frag}
end
/-! ### layers of ways: how many earlier ties go the same way -/
end FF
namespace FF
open PySem PySem.Spec PyProof.Rows L2
variable [LT]
/-! ### each piece of a layer of ways has no more ties than points -/
end FF
namespace FF
open PySem PySem.Spec PyProof.Rows L2
variable [LT]
/-! ### {e for x in xs for y in ys}: a set of ints of two walks, no test -/
section
open PySem.Spec
abbrev two (elt t0 i0 t1 i1 : Expr) (scope : Scope) (pos : Pos) : Expr := .SetComp elt [⟨t0, i0, [], 0⟩, ⟨t1, i1, [], 0⟩] scope pos
end
section
open PySem.Spec
variable {prog : Program} {w : World} {A : Around} {R : Result → Shared → Prop} {s : Shared}
end
section
variable {X : Cx}
end
end FF
namespace FF
open PySem PySem.Spec PyProof.Rows L2
variable [LT]
/-! ### rows as the program and the laws tell of them -/
end FF
namespace FF
open PySem PySem.Spec PyProof.Rows L2
variable [LT]
/-! ### the search for a free tie: who pushes whom, and how far each is -/
section
variable {ts : List (Int × Int)} {ws : List V} {k : Int}
/-- levels tell how short a row may be -/
theorem LevP.least {tie : Nat} {m : Int} {ls : List Int} (hw : ws.length = ts.length) (h : LevP ts k ws tie m ls) : ∀ {es : List (Int × Int)} {e : Int × Int} {r : List (Int × Int)}, es = e :: r → PRow ts ws k es → (e.1 = tie ∨ ws[e.1.toNat]? ≠ some .non) → m ≤ es.length + hat ls e.1
  | [], _, _, h0, _, _ => nomatch h0
  | [e], _, _, h0, hp, hx => by
    cases h0
    obtain ⟨⟨a0, a1⟩, f0, f1⟩ := hp.bd e (List.mem_singleton.mpr rfl)
    have hj : joinB ts ws e = false := by
      have := hp.push
      show joinB ts ws e = false
      have this : (!joinB ts ws e) = true := this
      cases z : joinB ts ws e with
      | false => rfl
      | true => rw [z] at this; cases this
    obtain ⟨i, hi⟩ : ∃ i : Nat, e.1 = i := ⟨e.1.toNat, by omega⟩
    have hl := h.2 e.2 f0 f1 i (by omega) (hx.imp (fun z => by omega) fun z => by rw [hi, Int.toNat_natCast] at z; exact z) (fun z => by
      have := hp.lay e (List.mem_singleton.mpr rfl)
      unfold layB at this
      rw [hi, Int.toNat_natCast, decide_eq_true z] at this
      cases this)
    rw [show (((i : Nat) : Int), e.2) = e by rw [← hi]] at hl
    unfold lowB at hl
    rw [if_neg (by rw [hj]; decide)] at hl
    have := of_decide_eq_true hl
    show m ≤ 1 + hat ls e.1
    omega
  | e :: e' :: r, _, _, h0, hp, hx => by
    cases h0
    obtain ⟨⟨a0, a1⟩, f0, f1⟩ := hp.bd e List.mem_cons_self
    obtain ⟨hj, ho, _⟩ := pushB_parts.mp hp.push
    obtain ⟨i, hi⟩ : ∃ i : Nat, e.1 = i := ⟨e.1.toNat, by omega⟩
    have hl := h.2 e.2 f0 f1 i (by omega) (hx.imp (fun z => by omega) fun z => by rw [hi, Int.toNat_natCast] at z; exact z) (fun z => by
      have := hp.lay e List.mem_cons_self
      unfold layB at this
      rw [hi, Int.toNat_natCast, decide_eq_true z] at this
      cases this)
    rw [show (((i : Nat) : Int), e.2) = e by rw [← hi]] at hl
    unfold lowB at hl
    rw [if_pos hj] at hl
    have h1 := (@of_decide_eq_true _ (Classical.propDecidable _) hl) e'.1 ho
    have h2 := LevP.least hw h rfl hp.tail (.inr fun z => by
      have := (nums_iff.mp ho.1).2
      rw [this] at z
      cases z)
    rw [List.length_cons] at h2 ⊢
    have : ((r.length + 1 + 1 : Nat) : Int) = ((r.length + 1 : Nat) : Int) + 1 := by omega
    show m ≤ (((e' :: r).length + 1 : Nat) : Int) + hat ls e.1
    rw [List.length_cons]
    omega
theorem LevP.Least {tie : Nat} {ls : List Int} (hw : ws.length = ts.length) {e : Int × Int} {r : List (Int × Int)} (h : LevP ts k ws tie ((e :: r).length : Int) ls) (he : e.1 = tie) : FF.Least ts ws k (e :: r) := fun e' r' hp he' => by
  have := LevP.least hw h (es := e' :: r') rfl hp (.inl (he'.trans he))
  rw [he'.trans he, h.1, List.length_cons, List.length_cons] at this
  omega
/-- what pushes come to, closed -/
theorem closed_keys {e : Int} {R : List Int} (hL : LayK ts k ws) (he : 0 ≤ e ∧ e < (ts.length : Int)) (hnd : R.Nodup) (mem : ∀ t, t ∈ R ↔ Rch ts ws k e t) (ring : ∀ t, Rch ts ws k e t → ∀ f, 0 ≤ f → f < k → ws[t.toNat]? ≠ some (.int f) → jn ts (numsFrom f 0 ws) (tk ts t).1 (tk ts t).2 ∧ ∀ x, OnR ts (numsFrom f 0 ws) t x → Rch ts ws k e x) : Closed ts ws k R := by
  have hl := hL.len
  refine ⟨hnd, fun t ht => ((mem t).mp ht).rng hl he, fun t ht f f0 f1 hn => ?_, fun t ht s hs => ?_⟩
  · obtain ⟨a, b⟩ := ring t ((mem t).mp ht) f f0 f1 hn
    exact ⟨a, fun x hx => (mem x).mpr (b x hx)⟩
  · have go : ∀ t, Rch ts ws k e t → jn ts R (tk ts t).1 (tk ts e).1 := fun t ht => by
      induction ht with
      | base => rfl
      | @step s t f hs f0 f1 hn hj ho ih =>
        obtain ⟨_, hring⟩ := ring s hs f f0 f1 hn
        have hF := (fo_nums hl).mpr (hL.tree f)
        obtain ⟨ns, hRg⟩ := ring_exists hF.nd hj
        have h1 := hRg.mem_iff hF.rl hF.nd
        have hsub : ∀ x ∈ ns, x ∈ R := fun x hx => (mem x).mpr (hring x ((h1 x).mp hx))
        obtain ⟨l1, l2, u, v, el, w1, w2, w3⟩ := hRg.way.cut ((h1 t).mpr ho)
        have e1 : jn ts R (tk ts s).1 u := w1.joined fun x hx => hsub x (by rw [el]; exact List.mem_append_left _ hx)
        have htR : t ∈ R := (mem t).mpr (.step hs f0 f1 hn hj ho)
        have e2 : jn ts R (tk ts t).1 (tk ts t).2 := Leads.foldR (ts := ts) htR (.inl rfl)
        have e3 : jn ts R (tk ts t).1 u := by
          rcases w2 with w2 | w2
          · have : (tk ts t) = (u, v) := w2
            rw [this]
          · have : (tk ts t) = (v, u) := w2
            rw [this] at e2 ⊢
            exact e2
        exact e3.trans (e1.symm.trans ih)
    exact (go t ((mem t).mp ht)).trans (go s ((mem s).mp hs)).symm
/-- keys with who pushes them, in the order of coming; lv: how far they are; the first a of them looked through -/
structure Bfs (ts : List (Int × Int)) (ws : List V) (k : Int) (tie : Nat) (fl : List (Int × Option (Int × Int))) (lv : Nat → Nat) (a : Nat) : Prop where
  head : fl[0]? = some ((tie : Int), none)
  nd : (fl.map Prod.fst).Nodup
  rng : ∀ x ∈ fl.map Prod.fst, 0 ≤ x ∧ x < (ts.length : Int)
  par : ∀ (i : Nat) x s f, fl[i]? = some (x, some (s, f)) → ∃ j, j < i ∧ (∃ o, fl[j]? = some (s, o)) ∧ lv i = lv j + 1 ∧ (0 ≤ f ∧ f < k) ∧ ws[s.toNat]? ≠ some (.int f) ∧ joinB ts ws (s, f) = true ∧ OnRing ts ws (s, f) x
  root : ∀ (i : Nat) x, fl[i]? = some (x, none) → i = 0
  lv0 : lv 0 = 0
  mono : ∀ i j, i ≤ j → j < fl.length → lv i ≤ lv j
  near : ∀ i, i < fl.length → a < fl.length → lv i ≤ lv a + 1
  done : ∀ j, j < a → ∀ s o, fl[j]? = some (s, o) → ∀ f, 0 ≤ f → f < k → ws[s.toNat]? ≠ some (.int f) → joinB ts ws (s, f) = true ∧ ∀ x, OnRing ts ws (s, f) x → ∃ i o', fl[i]? = some (x, o') ∧ lv i ≤ lv j + 1
variable {tie : Nat} {fl : List (Int × Option (Int × Int))} {lv : Nat → Nat} {a : Nat}
theorem Bfs.start (ht : tie < ts.length) : Bfs ts ws k tie [((tie : Int), none)] (fun _ => 0) 0 :=
  ⟨rfl, by simp, fun x hx => by rw [List.mem_singleton.mp hx]; omega, fun i x s f h => by
    cases i with
    | zero => cases h
    | succ i => simp at h, fun i x h => by
    cases i with
    | zero => rfl
    | succ i => simp at h, rfl, fun _ _ _ _ => Nat.le_refl _, fun _ _ _ => Nat.zero_le _, fun j hj => by omega⟩
theorem Bfs.add (h : Bfs ts ws k tie fl lv a) (hw : ws.length = ts.length) {s x f : Int} {o : Option (Int × Int)} (ha : fl[a]? = some (s, o)) (hx : x ∉ fl.map Prod.fst) (f0 : 0 ≤ f) (f1 : f < k) (hn : ws[s.toNat]? ≠ some (.int f)) (hj : joinB ts ws (s, f) = true) (ho : OnRing ts ws (s, f) x) : Bfs ts ws k tie (fl ++ [(x, some (s, f))]) (fun i => if i = fl.length then lv a + 1 else lv i) a := by
  have al : a < fl.length := (List.getElem?_eq_some_iff.mp ha).1
  have old : ∀ {i : Nat} {p}, fl[i]? = some p → (fl ++ [(x, some (s, f))])[i]? = some p ∧ i ≠ fl.length := fun {i p} e => by
    have := (List.getElem?_eq_some_iff.mp e).1
    exact ⟨by rw [List.getElem?_append_left this]; exact e, by omega⟩
  have cases_ : ∀ {i : Nat} {p}, (fl ++ [(x, some (s, f))])[i]? = some p → fl[i]? = some p ∨ (i = fl.length ∧ p = (x, some (s, f))) := fun {i p} e => by
    by_cases c : i < fl.length
    · rw [List.getElem?_append_left c] at e
      exact .inl e
    · have := (List.getElem?_eq_some_iff.mp e).1
      rw [List.length_append] at this
      have ei : i = fl.length := by
        have : i < fl.length + 1 := this
        omega
      rw [ei, List.getElem?_append_right (Nat.le_refl _), Nat.sub_self] at e
      exact .inr ⟨ei, (Option.some.inj e).symm⟩
  refine ⟨(old h.head).1, ?_, fun y hy => ?_, fun i y s' f' e => ?_, fun i y e => ?_, ?_, fun i j hij hj' => ?_, fun i hi _ => ?_, fun j hj' s' o' e f' g0 g1 hn' => ?_⟩
  · rw [List.map_append, List.nodup_append]
    exact ⟨h.nd, by simp, fun y hy z hz => by
      have e9 : z = x := List.mem_singleton.mp hz
      rw [e9]
      exact fun q => hx (by rw [← q]; exact hy)⟩
  · rw [List.map_append] at hy
    rcases List.mem_append.mp hy with hy | hy
    · exact h.rng y hy
    · have e9 : y = x := List.mem_singleton.mp hy
      rw [e9]
      have := nums_iff.mp ho.1
      refine ⟨this.1, ?_⟩
      have := (List.getElem?_eq_some_iff.mp this.2).1
      omega
  · rcases cases_ e with e | ⟨ei, e2⟩
    · obtain ⟨j, hj1, ⟨o', e'⟩, hl, r⟩ := h.par i y s' f' e
      refine ⟨j, hj1, ⟨o', (old e').1⟩, ?_, r⟩
      rw [if_neg (old e).2, if_neg (old e').2]
      exact hl
    · cases e2
      rw [ei]
      refine ⟨a, al, ⟨o, (old ha).1⟩, ?_, ⟨f0, f1⟩, hn, hj, ho⟩
      rw [if_pos rfl, if_neg (by omega)]
  · rcases cases_ e with e | ⟨_, e2⟩
    · exact h.root i y e
    · cases e2
  · show (if 0 = fl.length then _ else _) = 0
    rw [if_neg (by omega)]
    exact h.lv0
  · rw [List.length_append] at hj'
    have hj' : j < fl.length + 1 := hj'
    show (if i = fl.length then _ else _) ≤ (if j = fl.length then _ else _)
    by_cases c2 : j = fl.length
    · rw [if_pos c2]
      by_cases c1 : i = fl.length
      · rw [if_pos c1]
        exact Nat.le_refl _
      · rw [if_neg c1]
        exact h.near i (by omega) al
    · rw [if_neg c2, if_neg (by omega)]
      exact h.mono i j hij (by omega)
  · rw [List.length_append] at hi
    have hi : i < fl.length + 1 := hi
    show (if i = fl.length then _ else _) ≤ (if a = fl.length then _ else _) + 1
    rw [if_neg (show ¬ a = fl.length by omega)]
    by_cases c1 : i = fl.length
    · rw [if_pos c1]
      exact Nat.le_refl _
    · rw [if_neg c1]
      exact h.near i (by omega) al
  · rcases cases_ e with e | ⟨rfl, e⟩
    · obtain ⟨b1, b2⟩ := h.done j hj' s' o' e f' g0 g1 hn'
      refine ⟨b1, fun y hy => ?_⟩
      obtain ⟨i, o'', e', hl⟩ := b2 y hy
      refine ⟨i, o'', (old e').1, ?_⟩
      rw [if_neg (old e').2, if_neg (old e).2]
      exact hl
    · omega
theorem Bfs.next (h : Bfs ts ws k tie fl lv a) {s : Int} {o : Option (Int × Int)} (ha : fl[a]? = some (s, o)) (hd : ∀ f, 0 ≤ f → f < k → ws[s.toNat]? ≠ some (.int f) → joinB ts ws (s, f) = true ∧ ∀ x, OnRing ts ws (s, f) x → x ∈ fl.map Prod.fst) : Bfs ts ws k tie fl lv (a + 1) := by
  have al : a < fl.length := (List.getElem?_eq_some_iff.mp ha).1
  refine ⟨h.head, h.nd, h.rng, h.par, h.root, h.lv0, h.mono, fun i hi ha' => ?_, fun j hj s' o' e f f0 f1 hn => ?_⟩
  · have h1 := h.near i hi al
    have h2 := h.mono a (a + 1) (by omega) ha'
    omega
  · by_cases c : j < a
    · exact h.done j c s' o' e f f0 f1 hn
    · have ej : j = a := by omega
      subst ej
      rw [ha] at e
      cases e
      obtain ⟨b1, b2⟩ := hd f f0 f1 hn
      refine ⟨b1, fun x hx => ?_⟩
      obtain ⟨p, hp, rfl⟩ := List.mem_map.mp (b2 x hx)
      obtain ⟨i, hi⟩ := List.getElem?_of_mem hp
      exact ⟨i, p.2, hi, h.near i (List.getElem?_eq_some_iff.mp hi).1 al⟩
/-- one push more ahead of a row -/
theorem Bfs.step (h : Bfs ts ws k tie fl lv a) {i : Nat} {x s f g : Int} {r : List (Int × Int)} (e : fl[i]? = some (x, some (s, f))) (hp : PRow ts ws k ((x, g) :: r)) : PRow ts ws k ((s, f) :: (x, g) :: r) ∧ ∃ j o, j < i ∧ fl[j]? = some (s, o) ∧ lv i = lv j + 1 := by
  obtain ⟨j, hj, ⟨o', e'⟩, hlv, hf, hn, hjn, ho⟩ := h.par i x s f e
  exact ⟨hp.cons ⟨h.rng s (List.mem_map.mpr ⟨_, List.mem_of_getElem? e', rfl⟩), hf⟩ (layB_ne hn) hjn ho, j, o', hj, e', hlv⟩
theorem Bfs.key (h : Bfs ts ws k tie fl lv a) {i : Nat} {p : Int × Option (Int × Int)} (e : fl[i]? = some p) : p.1 ∈ fl.map Prod.fst := List.mem_map.mpr ⟨p, List.mem_of_getElem? e, rfl⟩
theorem Bfs.one (h : Bfs ts ws k tie fl lv a) {i j : Nat} {x : Int} {o o' : Option (Int × Int)} (e : fl[i]? = some (x, o)) (e' : fl[j]? = some (x, o')) : i = j := by
  have hi : (fl.map Prod.fst)[i]? = some x := by rw [List.getElem?_map, e]; rfl
  have hj : (fl.map Prod.fst)[j]? = some x := by rw [List.getElem?_map, e']; rfl
  obtain ⟨li, ei⟩ := List.getElem?_eq_some_iff.mp hi
  obtain ⟨lj, ej⟩ := List.getElem?_eq_some_iff.mp hj
  exact (List.getElem_inj h.nd).mp (ei.trans ej.symm)
theorem Bfs.levels (h : Bfs ts ws k tie fl lv a) (al : a < fl.length) {ls : List Int} (h1 : ∀ i x o, fl[i]? = some (x, o) → hat ls x = lv i) (h2 : ∀ x, 0 ≤ x → x < (ts.length : Int) → x ∉ fl.map Prod.fst → hat ls x = (lv a : Int) + 1) (hw : ws.length = ts.length) : LevP ts k ws tie ((lv a : Int) + 1) ls := by
  refine ⟨(h1 0 _ _ h.head).trans (by rw [h.lv0]; rfl), fun f f0 f1 s hs hp hn => ?_⟩
  have top : ∀ x, 0 ≤ x → x < (ts.length : Int) → hat ls x ≤ (lv a : Int) + 1 := fun x x0 x1 => by
    by_cases c : x ∈ fl.map Prod.fst
    · obtain ⟨p, hp, rfl⟩ := List.mem_map.mp c
      obtain ⟨i, hi⟩ := List.getElem?_of_mem hp
      rw [h1 i p.1 p.2 hi]
      have := h.near i (List.getElem?_eq_some_iff.mp hi).1 al
      omega
    · rw [h2 x x0 x1 c]
      exact Int.le_refl _
  have ringr : ∀ x, OnRing ts ws ((s : Int), f) x → 0 ≤ x ∧ x < (ts.length : Int) := fun x hx => by
    obtain ⟨x0, hx'⟩ := nums_iff.mp hx.1
    have := (List.getElem?_eq_some_iff.mp hx').1
    exact ⟨x0, by omega⟩
  unfold lowB
  by_cases cj : joinB ts ws ((s : Int), f) = true
  · rw [if_pos cj]
    refine @decide_eq_true _ (Classical.propDecidable _) fun x hx => ?_
    obtain ⟨x0, x1⟩ := ringr x hx
    have ht := top x x0 x1
    by_cases c : (s : Int) ∈ fl.map Prod.fst
    · obtain ⟨p, hp', ep⟩ := List.mem_map.mp c
      obtain ⟨j, hj⟩ := List.getElem?_of_mem hp'
      have ej := h1 j p.1 p.2 hj
      rw [ep] at ej
      show hat ls x ≤ hat ls (s : Int) + 1
      by_cases cja : j < a
      · obtain ⟨_, b2⟩ := h.done j cja p.1 p.2 hj f f0 f1 (by rw [ep, Int.toNat_natCast]; exact hn)
        rw [ep] at b2
        obtain ⟨i, o', hi, hl⟩ := b2 x hx
        rw [h1 i x o' hi, ej]
        omega
      · have := h.mono a j (by omega) (List.getElem?_eq_some_iff.mp hj).1
        omega
    · have := h2 (s : Int) (by omega) (by omega) c
      show hat ls x ≤ hat ls (s : Int) + 1
      omega
  · have cj : joinB ts ws ((s : Int), f) = false := by simpa using cj
    rw [if_neg (by rw [cj]; decide)]
    refine decide_eq_true ?_
    show hat ls (s : Int) ≥ (lv a : Int) + 1 - 1
    by_cases c : (s : Int) ∈ fl.map Prod.fst
    · obtain ⟨p, hp', ep⟩ := List.mem_map.mp c
      obtain ⟨j, hj⟩ := List.getElem?_of_mem hp'
      have ej := h1 j p.1 p.2 hj
      rw [ep] at ej
      by_cases cja : j < a
      · obtain ⟨b1, _⟩ := h.done j cja p.1 p.2 hj f f0 f1 (by rw [ep, Int.toNat_natCast]; exact hn)
        rw [ep, cj] at b1
        cases b1
      · have := h.mono a j (by omega) (List.getElem?_eq_some_iff.mp hj).1
        omega
    · have := h2 (s : Int) (by omega) (by omega) c
      omega
theorem Bfs.rch (h : Bfs ts ws k tie fl lv a) (hw : ws.length = ts.length) : ∀ (n i : Nat), i ≤ n → ∀ x o, fl[i]? = some (x, o) → Rch ts ws k (tie : Int) x
  | n, i, _, x, none, e => by
    have ei := h.root i x e
    subst ei
    rw [h.head] at e
    cases e
    exact .base
  | 0, i, hi, x, some (s, f), e => by
    obtain ⟨j, hj, _⟩ := h.par i x s f e
    omega
  | n + 1, i, hi, x, some (s, f), e => by
    obtain ⟨j, hj, ⟨o', e'⟩, _, ⟨f0, f1⟩, hn, hjn, ho⟩ := h.par i x s f e
    exact .step (h.rch hw n j (by omega) s o' e') f0 f1 hn ((jn_join (e := (s, f)) hw).mp hjn) ho
theorem Bfs.mem_rch (h : Bfs ts ws k tie fl lv a) (ha : fl.length ≤ a) (hw : ws.length = ts.length) : ∀ t, t ∈ fl.map Prod.fst ↔ Rch ts ws k (tie : Int) t := fun t => by
  constructor
  · intro z
    obtain ⟨p, hp, rfl⟩ := List.mem_map.mp z
    obtain ⟨i, hi⟩ := List.getElem?_of_mem hp
    exact h.rch hw i i (Nat.le_refl _) p.1 p.2 hi
  · intro z
    induction z with
    | base => exact h.key h.head
    | @step s t f hs f0 f1 hn hj ho ih =>
      obtain ⟨p, hp, rfl⟩ := List.mem_map.mp ih
      obtain ⟨j, hj'⟩ := List.getElem?_of_mem hp
      have jl := (List.getElem?_eq_some_iff.mp hj').1
      obtain ⟨_, b2⟩ := h.done j (by omega) p.1 p.2 hj' f f0 f1 hn
      obtain ⟨i, o', hi, _⟩ := b2 t ho
      exact h.key hi
theorem Bfs.closed (h : Bfs ts ws k tie fl lv a) (ha : fl.length ≤ a) (hL : LayK ts k ws) (ht : tie < ts.length) : Closed ts ws k (fl.map Prod.fst) := by
  have hw := hL.len
  have mem := h.mem_rch ha hw
  refine closed_keys hL ⟨by omega, by omega⟩ h.nd mem fun t ht' f f0 f1 hn => ?_
  obtain ⟨p, hp, rfl⟩ := List.mem_map.mp ((mem t).mpr ht')
  obtain ⟨j, hj'⟩ := List.getElem?_of_mem hp
  have jl := (List.getElem?_eq_some_iff.mp hj').1
  obtain ⟨b1, b2⟩ := h.done j (by omega) p.1 p.2 hj' f f0 f1 hn
  refine ⟨(jn_join (e := (p.1, f)) hw).mp b1, fun x hx => ?_⟩
  obtain ⟨i, o', hi, _⟩ := b2 x hx
  exact h.rch hw i i (Nat.le_refl _) x o' hi
/-- a row as long as the levels tell lays the tie -/
theorem PRow.lays {ls : List Int} {e : Int × Int} {r : List (Int × Int)} (hL : LayK ts k ws) (hp : PRow ts ws k (e :: r)) (he : e.1 = tie) (hl : LevP ts k ws tie ((e :: r).length : Int) ls) (h0 : ws[tie]? = some .non) : LayK ts k (pushL ws (e :: r)) ∧ ((e :: r).map Prod.fst).Nodup := by
  obtain ⟨hc, nd⟩ := Least.nocut hp (hl.Least hL.len he)
  refine ⟨hL.push nd hp.bd hp.lay hp.push (by rw [he, Int.toNat_natCast]; exact h0) hc, nd⟩
end
/-- from what is closed no row comes -/
theorem Closed.no_row {ts : List (Int × Int)} {ws : List V} {k : Int} {R : List Int} (h : Closed ts ws k R) (hw : ws.length = ts.length) : ∀ {es : List (Int × Int)} {e : Int × Int} {r : List (Int × Int)}, es = e :: r → PRow ts ws k es → e.1 ∈ R → False
  | [], _, _, h0, _, _ => nomatch h0
  | [e], _, _, h0, hp, hR => by
    cases h0
    obtain ⟨_, f0, f1⟩ := hp.bd e (List.mem_singleton.mpr rfl)
    have hl := hp.lay e (List.mem_singleton.mpr rfl)
    obtain ⟨hj, _⟩ := h.ring e.1 hR e.2 f0 f1 (of_decide_eq_false hl)
    have := push_last hp.push (e := e) rfl
    rw [(jn_join hw).mpr hj] at this
    cases this
  | e :: e' :: r, _, _, h0, hp, hR => by
    cases h0
    obtain ⟨_, f0, f1⟩ := hp.bd e List.mem_cons_self
    have hl := hp.lay e List.mem_cons_self
    obtain ⟨_, hr⟩ := h.ring e.1 hR e.2 f0 f1 (of_decide_eq_false hl)
    exact h.no_row hw rfl hp.tail (hr e'.1 (pushB_parts.mp hp.push).2.1)
section
variable {ts : List (Int × Int)} {ws : List V} {k : Int} {tie : Nat} {H H' : Hp} {fl : List (Int × Addr)} {bf : List (Int × Option (Int × Int))} {lv : Nat → Nat} {a : Nat}
end
end FF
namespace FF
open PySem PySem.Spec PyProof.Rows L2
variable [LT]
/-! ### dicts from ints to any values -/
theorem Ties.reverse {H : Hp} {rs : List V} {ts : List (Int × Int)} (h : Ties H rs ts) : Ties H rs.reverse ts.reverse := by
  unfold Ties at h
  induction h with
  | nil => exact .nil
  | cons a _ ih =>
    rw [List.reverse_cons, List.reverse_cons]
    exact Ties.append ih (.cons a .nil)
end FF
namespace FF
open PySem PySem.Spec PyProof.Rows L2
variable [LT]
/-! ### the heap while a free tie is sought -/
section
variable {H : Hp} {n : Int} {ts : List (Int × Int)} {ws : List V} {k : Int} {tie : Nat} {d nb hg wt : Addr} {bl : List (Int × Addr)} {G G' : Hp} {pl pl' : List (Int × V)} {fl fl' : List (Int × Option (Int × Int))} {lv lv' : Nat → Nat} {a a' : Nat} {gl gl' : List (Int × Addr)}
end
end FF
namespace FF
open PySem PySem.Spec PyProof.Rows L2
variable [LT]
/-! ### l.count(k) of ints and Nones -/
end FF
namespace FF
open PySem PySem.Spec PyProof.Rows L2
variable [LT]
/-! ### a ring in a forest is one sequence -/
theorem Way.split {ts : List (Int × Int)} : ∀ {p : List Int} {x z m : Int} {q : List Int}, Way ts x (p ++ m :: q) z → ∃ u v, Way ts x p u ∧ Leads ts m u v ∧ Way ts v q z
  | [], x, z, m, q, h => by
    obtain ⟨y, h1, h2⟩ := Way.inv h
    exact ⟨x, y, .nil x, h1, h2⟩
  | c :: p, x, z, m, q, h => by
    obtain ⟨y, h1, h2⟩ := Way.inv (show Way ts x (c :: (p ++ m :: q)) z from h)
    obtain ⟨u, v, a, b, d⟩ := Way.split h2
    exact ⟨u, v, .cons h1 a, b, d⟩
/-- m comes from a without m' -/
def Ere (ts : List (Int × Int)) (ms : List Int) (a m m' : Int) : Prop := foldR (fun x => x) (pick ts (but m' ms)) a = foldR (fun x => x) (pick ts (but m' ms)) (ts.getD m.toNat (0, 0)).1
theorem leads_end {ts : List (Int × Int)} {m u v : Int} (h : Leads ts m u v) : (ts.getD m.toNat (0, 0)).1 = u ∨ (ts.getD m.toNat (0, 0)).1 = v := by
  rcases h with h | h
  · exact .inl (by rw [h])
  · exact .inr (by rw [h])
section
variable {ts : List (Int × Int)} {ms : List Int} {a b : Int} {l : List Int}
theorem IsRing.ere (h : IsRing ts ms a b l) {p q : List Int} {m m' : Int} (e : l = p ++ m :: q) (hm : m' ∈ q) : Ere ts ms a m m' := by
  have hnd := h.nd
  subst e
  obtain ⟨u, v, w1, w2, _⟩ := Way.split h.way
  rw [List.nodup_append] at hnd
  obtain ⟨n1, n2, n3⟩ := hnd
  have n4 := (List.nodup_cons.mp n2).1
  have inb : ∀ x ∈ p, x ∈ but m' ms := fun x hx => mem_but.mpr ⟨h.mem x (List.mem_append_left _ hx), n3 x hx m' (List.mem_cons_of_mem _ hm)⟩
  have mb : m ∈ but m' ms := mem_but.mpr ⟨h.mem m (List.mem_append_right _ List.mem_cons_self), fun z => n4 (by rw [z]; exact hm)⟩
  have e1 := w1.joined inb
  have e2 := w2.foldR mb
  unfold Ere
  rcases leads_end w2 with z | z <;> rw [z]
  · exact e1
  · exact e1.trans e2
theorem split_at {l : List Int} {i j : Nat} (hi : i < l.length) (hj : j < l.length) (hij : i < j) : l = l.take i ++ l[i] :: l.drop (i + 1) ∧ l[j] ∈ l.drop (i + 1) := by
  refine ⟨?_, ?_⟩
  · rw [← List.drop_eq_getElem_cons hi, List.take_append_drop]
  · rw [List.mem_iff_getElem]
    refine ⟨j - (i + 1), by rw [List.length_drop]; omega, ?_⟩
    rw [List.getElem_drop]
    congr 1
    omega
theorem IsRing.up (h : IsRing ts ms a b l) : l.Pairwise (Ere ts ms a) := by
  rw [List.pairwise_iff_getElem]
  intro i j hi hj hij
  obtain ⟨e, hm⟩ := split_at hi hj hij
  exact h.ere e hm
end
/-! ### the search is one: which ties come, in which order -/
abbrev FlT := List (Int × Option (Int × Int))
open Classical in
noncomputable def ringL (ts : List (Int × Int)) (ws : List V) (s f : Int) : List Int := if h : ∃ l, IsRing ts (numsFrom f 0 ws) (tk ts s).1 (tk ts s).2 l then h.choose else []
noncomputable def grow (ts : List (Int × Int)) (ws : List V) (fl : FlT) (s f : Int) : FlT := fl ++ ((ringL ts ws s f).filter fun x => !decide (x ∈ fl.map Prod.fst)).map fun x => (x, some (s, f))
noncomputable def inF (ts : List (Int × Int)) (ws : List V) (s : Int) (fl : FlT) : Nat → FlT
  | 0 => fl
  | j + 1 => if ws[s.toNat]? = some (.int (j : Int)) then inF ts ws s fl j else grow ts ws (inF ts ws s fl j) s j
noncomputable def outF (ts : List (Int × Int)) (ws : List V) (k : Int) (tie : Nat) : Nat → FlT
  | 0 => [((tie : Int), none)]
  | a + 1 => match (outF ts ws k tie a)[a]? with
    | some p => inF ts ws p.1 (outF ts ws k tie a) k.toNat
    | none => outF ts ws k tie a
/-- the a-th is free in f -/
def Stp_ (ts : List (Int × Int)) (ws : List V) (k : Int) (tie : Nat) (a : Nat) (f : Int) : Prop := ∃ s o, (outF ts ws k tie a)[a]? = some (s, o) ∧ (0 ≤ f ∧ f < k) ∧ ws[s.toNat]? ≠ some (.int f) ∧ joinB ts ws (s, f) = false
/-- what the search has come to: the first that is free -/
structure Fst (ts : List (Int × Int)) (ws : List V) (k : Int) (tie : Nat) (a : Nat) (x f : Int) (fl : FlT) : Prop where
  fl_ : fl = inF ts ws x (outF ts ws k tie a) f.toNat
  key : ∃ o, (outF ts ws k tie a)[a]? = some (x, o)
  stop : Stp_ ts ws k tie a f
  ahead : ∀ a' f', (a' < a ∨ (a' = a ∧ f' < f)) → ¬ Stp_ ts ws k tie a' f'
theorem Fst.same {ts : List (Int × Int)} {ws : List V} {k : Int} {tie a a' : Nat} {x x' f f' : Int} {fl fl' : FlT} (h : Fst ts ws k tie a x f fl) (h' : Fst ts ws k tie a' x' f' fl') : a = a' ∧ x = x' ∧ f = f' ∧ fl = fl' := by
  have ea : a = a' := by
    rcases Nat.lt_trichotomy a a' with c | c | c
    · exact (h'.ahead a f (.inl c) h.stop).elim
    · exact c
    · exact (h.ahead a' f' (.inl c) h'.stop).elim
  subst ea
  have ef : f = f' := by
    by_cases c : f = f'
    · exact c
    · by_cases c2 : f < f'
      · exact (h'.ahead a f (.inr ⟨rfl, c2⟩) h.stop).elim
      · exact (h.ahead a f' (.inr ⟨rfl, by omega⟩) h'.stop).elim
  subst ef
  obtain ⟨o, e⟩ := h.key
  obtain ⟨o', e'⟩ := h'.key
  rw [e] at e'
  have ex : x = x' := by cases e'; rfl
  subst ex
  exact ⟨rfl, rfl, rfl, h.fl_.trans h'.fl_.symm⟩
/-- the pushes that lead to x -/
inductive Pth (fl : FlT) : Int → List (Int × Int) → Prop where
  | root {x : Int} (h : (x, none) ∈ fl) : Pth fl x []
  | step {x s f : Int} {es : List (Int × Int)} (h : (x, some (s, f)) ∈ fl) (p : Pth fl s es) : Pth fl x (es ++ [(s, f)])
theorem fl_one {fl : FlT} (nd : (fl.map Prod.fst).Nodup) {x : Int} {o o' : Option (Int × Int)} (h : (x, o) ∈ fl) (h' : (x, o') ∈ fl) : o = o' := by
  obtain ⟨i, hi⟩ := List.getElem?_of_mem h
  obtain ⟨j, hj⟩ := List.getElem?_of_mem h'
  have ei : (fl.map Prod.fst)[i]? = some x := by rw [List.getElem?_map, hi]; rfl
  have ej : (fl.map Prod.fst)[j]? = some x := by rw [List.getElem?_map, hj]; rfl
  obtain ⟨li, e1⟩ := List.getElem?_eq_some_iff.mp ei
  obtain ⟨lj, e2⟩ := List.getElem?_eq_some_iff.mp ej
  have := (List.getElem_inj nd).mp (e1.trans e2.symm)
  subst this
  rw [hi] at hj
  cases hj
  rfl
theorem Pth.same {fl : FlT} (nd : (fl.map Prod.fst).Nodup) {x : Int} {es es' : List (Int × Int)} (h : Pth fl x es) (h' : Pth fl x es') : es = es' := by
  induction h generalizing es' with
  | root h =>
    cases h' with
    | root _ => rfl
    | step h2 _ => cases fl_one nd h h2
  | step h p ih =>
    cases h' with
    | root h2 => cases fl_one nd h h2
    | step h2 p2 =>
      cases fl_one nd h h2
      rw [ih p2]
theorem Bfs.lv_same {ts : List (Int × Int)} {ws : List V} {k : Int} {tie : Nat} {fl : FlT} {lv lv' : Nat → Nat} {a a' : Nat} (h : Bfs ts ws k tie fl lv a) (h' : Bfs ts ws k tie fl lv' a') : ∀ i, i < fl.length → lv i = lv' i := by
  intro i
  induction i using Nat.strongRecOn with
  | _ i ih =>
    intro hi
    obtain ⟨x, o, hx⟩ : ∃ x o, fl[i]? = some (x, o) := ⟨fl[i].1, fl[i].2, List.getElem?_eq_getElem hi⟩
    cases o with
    | none => rw [h.root i x hx, h.lv0, h'.lv0]
    | some sf =>
      obtain ⟨j, hj, ⟨o1, e1⟩, l1, _⟩ := h.par i x sf.1 sf.2 hx
      obtain ⟨j', hj', ⟨o2, e2⟩, l2, _⟩ := h'.par i x sf.1 sf.2 hx
      have := h.one e1 e2
      subst this
      rw [l1, l2, ih j hj (by omega)]
end FF
namespace FF
open PySem PySem.Spec PyProof.Rows L2
variable [LT]
/-! ### what push_tie tells -/
def Laid_ (ts : List (Int × Int)) (k : Int) (ws : List V) (tie : Nat) (e : Int × Int) (es : List (Int × Int)) (ls : List Int) : Prop :=
  PRow ts ws k (e :: es) ∧ e.1 = (tie : Int) ∧ ls.length = ts.length ∧ (∀ y ∈ ls, 0 ≤ y ∧ y ≤ 121) ∧ LevP ts k ws tie ((e :: es).length : Int) ls ∧
  ∃ (fl : FlT) (lv : Nat → Nat) (a : Nat) (x g : Int) (mid : List (Int × Int)), Fst ts ws k tie a x g fl ∧ Bfs ts ws k tie fl lv a ∧ e :: es = mid ++ [(x, g)] ∧ Pth fl x mid ∧ (∀ (i : Nat) y o, fl[i]? = some (y, o) → hat ls y = lv i) ∧ ∀ y, 0 ≤ y → y < (ts.length : Int) → y ∉ fl.map Prod.fst → hat ls y = ((e :: es).length : Int)
def Full_ (ts : List (Int × Int)) (n k : Int) (ws : List V) (tie : Nat) (ls R : List Int) : Prop := Lot n ls ∧ EndsOf ts R ls ∧ Closed ts ws k R ∧ (tie : Int) ∈ R ∧ ∀ t, t ∈ R ↔ Rch ts ws k (tie : Int) t
def Told (ts : List (Int × Int)) (n k : Int) (ws : List V) (tie : Nat) (H : Hp) (x : Addr) : Prop :=
  (∃ (r c : Addr) (xs : List V) (e : Int × Int) (es : List (Int × Int)) (ls : List Int), H x = some (.tup [.str "laid", .ref r, .ref c]) ∧ H r = some (.tup xs) ∧ Ties H xs (e :: es) ∧ H c = some (.tup (ls.map V.int)) ∧ Laid_ ts k ws tie e es ls) ∨
  ∃ (c : Addr) (ls R : List Int), H x = some (.tup [.str "full", .ref c]) ∧ H c = some (.tup (ls.map V.int)) ∧ Full_ ts n k ws tie ls R
theorem Told.mono {ts : List (Int × Int)} {n k : Int} {ws : List V} {tie : Nat} {H H' : Hp} {x : Addr} (h : Told ts n k ws tie H x) (kk : ∀ q xs, H q = some (.tup xs) → H' q = some (.tup xs)) : Told ts n k ws tie H' x := by
  rcases h with ⟨r, c, xs, e, es, ls, h1, h2, h3, h4, h5⟩ | ⟨c, ls, R, h1, h2, h3⟩
  · exact .inl ⟨r, c, xs, e, es, ls, kk _ _ h1, kk _ _ h2, h3.mono kk, kk _ _ h4, h5⟩
  · exact .inr ⟨c, ls, R, kk _ _ h1, kk _ _ h2, h3⟩
theorem Laid_.same {ts : List (Int × Int)} {k : Int} {ws : List V} {tie : Nat} {e e' : Int × Int} {es es' : List (Int × Int)} {ls ls' : List Int} (h : Laid_ ts k ws tie e es ls) (h' : Laid_ ts k ws tie e' es' ls') : e :: es = e' :: es' ∧ ls = ls' := by
  obtain ⟨_, _, l1, _, _, fl, lv, a, x, g, mid, hF, hB, he, hp, hl, ho⟩ := h
  obtain ⟨_, _, l2, _, _, fl', lv', a', x', g', mid', hF', hB', he', hp', hl', ho'⟩ := h'
  obtain ⟨rfl, rfl, rfl, rfl⟩ := hF.same hF'
  have em := hp.same hB.nd hp'
  have ee : e :: es = e' :: es' := by rw [he, he', em]
  refine ⟨ee, ext_hat (l1.trans l2.symm) fun y y0 y1 => ?_⟩
  by_cases c : y ∈ fl.map Prod.fst
  · obtain ⟨p, hp, rfl⟩ := List.mem_map.mp c
    obtain ⟨i, hi⟩ := List.getElem?_of_mem hp
    rw [hl i p.1 p.2 hi, hl' i p.1 p.2 hi, hB.lv_same hB' i (List.getElem?_eq_some_iff.mp hi).1]
  · rw [ho y y0 (by omega) c, ho' y y0 (by omega) c, ee]
theorem sorted_one : ∀ {as bs : List Int}, as.Pairwise (· < ·) → bs.Pairwise (· < ·) → (∀ x, x ∈ as ↔ x ∈ bs) → as = bs := fun {as bs} ha hb h =>
  List.Perm.eq_of_pairwise (fun a b _ _ h1 h2 => by omega) ha hb ((List.perm_ext_iff_of_nodup (ha.imp fun z => by omega) (hb.imp fun z => by omega)).mpr h)
theorem Full_.same {ts : List (Int × Int)} {n k : Int} {ws : List V} {tie : Nat} {ls ls' R R' : List Int} (h : Full_ ts n k ws tie ls R) (h' : Full_ ts n k ws tie ls' R') : ls = ls' := by
  obtain ⟨h1, h2, _, _, h5⟩ := h
  obtain ⟨g1, g2, _, _, g5⟩ := h'
  refine sorted_one h1.up g1.up fun x => (h2.mem x).trans (Iff.trans ?_ (g2.mem x).symm)
  constructor
  · rintro ⟨t, ht, z⟩
    exact ⟨t, (g5 t).mpr ((h5 t).mp ht), z⟩
  · rintro ⟨t, ht, z⟩
    exact ⟨t, (h5 t).mpr ((g5 t).mp ht), z⟩
theorem Laid_.not_full {ts : List (Int × Int)} {n k : Int} {ws : List V} {tie : Nat} {e : Int × Int} {es : List (Int × Int)} {ls ls' R : List Int} (hw : ws.length = ts.length) (h : Laid_ ts k ws tie e es ls) (h' : Full_ ts n k ws tie ls' R) : False := h'.2.2.1.no_row hw rfl h.1 (by rw [h.2.1]; exact h'.2.2.2.1)
end FF
namespace FF
open PySem PySem.Spec PyProof.Rows L2
variable [LT]
/-! ### the data of what push_tie tells -/
def dE (es : List (Int × Int)) : PyData := .tuple (es.map fun e => .tuple [.int e.1, .int e.2])
theorem dE_sh (es : List (Int × Int)) : Sh 2 (dE es) := Sh.tup fun d hd => by
  obtain ⟨e, _, rfl⟩ := List.mem_map.mp hd
  refine (Sh.tup (k := 0) fun d hd => ?_)
  rcases List.mem_cons.mp hd with rfl | hd
  · exact Sh.int
  · rw [List.mem_singleton.mp hd]
    exact Sh.int
theorem Ties.dpA {K : PySem.W.Frag} {H : Hp} {xs : List V} {es : List (Int × Int)} (h : Ties H xs es) : DpAll K H xs (es.map fun e => .tuple [.int e.1, .int e.2]) := by
  unfold Ties at h
  induction h with
  | nil => exact .nil
  | cons a _ ih =>
    obtain ⟨q, rfl, hq⟩ := a
    exact .cons (.tup (sqT_of hq) (.cons (.int _) (.cons (.int _) .nil))) ih
theorem ints_sh (ls : List Int) : Sh 1 (.tuple (ls.map PyData.int)) := Sh.tup fun d hd => by
  obtain ⟨e, _, rfl⟩ := List.mem_map.mp hd
  exact Sh.int
theorem Sh.str {x : Str} (h : (PyData.str x).canLay0 = true := by decide +kernel) : Sh 0 (.str x) := ⟨h, Nat.le_refl _⟩
theorem Told.data {K : PySem.W.Frag} {ts : List (Int × Int)} {n k : Int} {ws : List V} {tie : Nat} {H : Hp} {x y : Addr} (hw : ws.length = ts.length) (h : Told ts n k ws tie H x) (h' : Told ts n k ws tie H y) : ∃ d, Dp K H (.ref x) d ∧ Dp K H (.ref y) d ∧ SeqAt.shaped d = true := by
  rcases h with ⟨r, c, xs, e, es, ls, h1, h2, h3, h4, h5⟩ | ⟨c, ls, R, h1, h2, h3⟩
  · rcases h' with ⟨r', c', xs', e', es', ls', g1, g2, g3, g4, g5⟩ | ⟨c', ls', R', g1, g2, g3⟩
    · obtain ⟨e1, e2⟩ := h5.same g5
      subst e2
      rw [← e1] at g3
      refine ⟨.tuple [.str "laid", dE (e :: es), .tuple (ls.map PyData.int)], .tup (sqT_of h1) (.cons (.str _) (.cons (.tup (sqT_of h2) h3.dpA) (.cons (.tup (sqT_of h4) (dp_ints ls)) .nil))), .tup (sqT_of g1) (.cons (.str _) (.cons (.tup (sqT_of g2) g3.dpA) (.cons (.tup (sqT_of g4) (dp_ints ls)) .nil))), (Sh.tup (k := 2) fun d hd => ?_).shaped⟩
      rcases List.mem_cons.mp hd with rfl | hd
      · exact Sh.up .str (Nat.zero_le _)
      rcases List.mem_cons.mp hd with rfl | hd
      · exact dE_sh _
      · rw [List.mem_singleton.mp hd]
        exact (ints_sh ls).up (by decide)
    · exact (h5.not_full hw g3).elim
  · rcases h' with ⟨r', c', xs', e', es', ls', g1, g2, g3, g4, g5⟩ | ⟨c', ls', R', g1, g2, g3⟩
    · exact (g5.not_full hw h3).elim
    · have e2 := h3.same g3
      subst e2
      refine ⟨.tuple [.str "full", .tuple (ls.map PyData.int)], .tup (sqT_of h1) (.cons (.str _) (.cons (.tup (sqT_of h2) (dp_ints ls)) .nil)), .tup (sqT_of g1) (.cons (.str _) (.cons (.tup (sqT_of g2) (dp_ints ls)) .nil)), (Sh.tup (k := 2) fun d hd => ?_).shaped⟩
      rcases List.mem_cons.mp hd with rfl | hd
      · exact Sh.up .str (Nat.zero_le _)
      · rw [List.mem_singleton.mp hd]
        exact (ints_sh ls).up (by decide)
end FF
namespace FF
open PySem PySem.Spec PyProof.Rows L2
variable [LT]
/-! ### strips: each tie brings a point that its forest has not touched -/
theorem layerOf_app {ts us : List (Int × Int)} {ws vs : List V} (h : ts.length = ws.length) (f : Int) : layerOf (ts ++ us) (ws ++ vs) f = layerOf ts ws f ++ layerOf us vs f := by
  unfold layerOf
  rw [List.zip_append h, List.filter_append, List.map_append]
theorem LayK.turn {ts : List (Int × Int)} {k : Int} {ws : List V} (h : LayK ts k ws) (r : Nat) : LayK (ts.drop r ++ ts.take r) k (ws.drop r ++ ws.take r) := by
  have hl := h.len
  refine ⟨by rw [List.length_append, List.length_append, List.length_drop, List.length_drop, List.length_take, List.length_take, hl], fun x hx => ?_, fun f => ?_⟩
  · rcases List.mem_append.mp hx with hx | hx
    · exact h.each x (List.mem_of_mem_drop hx)
    · exact h.each x (List.mem_of_mem_take hx)
  · have e : layerOf ts ws f = layerOf (ts.take r) (ws.take r) f ++ layerOf (ts.drop r) (ws.drop r) f := by
      rw [← layerOf_app (by rw [List.length_take, List.length_take, hl]), List.take_append_drop, List.take_append_drop]
    rw [layerOf_app (by rw [List.length_drop, List.length_drop, hl]), ringlessF_perm List.perm_append_comm, ← e]
    exact h.tree f
end FF
namespace FF
open PySem PySem.Spec PyProof.Rows L2
variable [LT]
/-! ### laying tie after tie -/
theorem row_laid {ts : List (Int × Int)} {ws : List V} {k : Int} : ∀ {es : List (Int × Int)} {e : Int × Int} {r : List (Int × Int)}, es = e :: r → PRow ts ws k es → ∀ x ∈ r, ws[x.1.toNat]? ≠ some .non
  | [], _, _, h0, _ => nomatch h0
  | [e], _, _, h0, _ => by
    cases h0
    exact fun _ z => nomatch z
  | e :: e' :: r, _, _, h0, hp => by
    cases h0
    intro x hx
    rcases List.mem_cons.mp hx with rfl | hx
    · have h := (nums_iff.mp (pushB_parts.mp hp.push).2.1.1).2
      rw [h]
      exact fun z => nomatch z
    · exact row_laid rfl hp.tail x hx
theorem pushL_out : ∀ (es : List (Int × Int)) {ws : List V} {i : Nat}, (∀ e ∈ es, e.1.toNat ≠ i) → (pushL ws es)[i]? = ws[i]?
  | [], _, _, _ => rfl
  | e :: es, ws, i, h => by
    show (pushL (ws.set e.1.toNat (.int e.2)) es)[i]? = _
    rw [pushL_out es fun x hx => h x (List.mem_cons_of_mem _ hx), List.getElem?_set_ne (h e List.mem_cons_self)]
theorem pushL_some : ∀ (es : List (Int × Int)) {ws : List V} {i : Nat}, ws[i]? ≠ some .non → (pushL ws es)[i]? ≠ some .non
  | [], _, _, h => h
  | e :: es, ws, i, h => by
    show (pushL (ws.set e.1.toNat (.int e.2)) es)[i]? ≠ _
    refine pushL_some es ?_
    by_cases c : e.1.toNat = i
    · subst c
      rw [List.getElem?_set_self']
      cases ws[e.1.toNat]? with
      | none => exact fun z => nomatch z
      | some _ => exact fun z => nomatch z
    · rw [List.getElem?_set_ne c]
      exact h
theorem pushL_mem : ∀ (es : List (Int × Int)) {ws : List V} {e : Int × Int}, e ∈ es → (pushL ws es)[e.1.toNat]? ≠ some .non
  | d :: es, ws, e, he => by
    show (pushL (ws.set d.1.toNat (.int d.2)) es)[e.1.toNat]? ≠ _
    rcases List.mem_cons.mp he with rfl | he
    · refine pushL_some es ?_
      rw [List.getElem?_set_self']
      cases ws[e.1.toNat]? with
      | none => exact fun z => nomatch z
      | some _ => exact fun z => nomatch z
    · exact pushL_mem es he
theorem Laid_.step {ts : List (Int × Int)} {k : Int} {ws : List V} {tie : Nat} {e : Int × Int} {es : List (Int × Int)} {ls : List Int} (hL : LayK ts k ws) (h0 : ws[tie]? = some .non) (h : Laid_ ts k ws tie e es ls) :
    LayK ts k (pushL ws (e :: es)) ∧ ∀ i : Nat, (pushL ws (e :: es))[i]? = some .non ↔ ws[i]? = some .non ∧ i ≠ tie := by
  obtain ⟨h1, h2, h3, h4, h5, _⟩ := h
  refine ⟨(h1.lays hL h2 h5 h0).1, fun i => ⟨fun z => ⟨?_, fun c => ?_⟩, fun ⟨z, c⟩ => ?_⟩⟩
  · by_cases c : ws[i]? = some .non
    · exact c
    · exact (pushL_some _ c z).elim
  · have := pushL_mem (e :: es) (ws := ws) (e := e) List.mem_cons_self
    rw [show e.1.toNat = i by omega] at this
    exact this z
  · rw [pushL_out, z]
    intro x hx
    rcases List.mem_cons.mp hx with rfl | hx
    · omega
    · intro q
      have := row_laid rfl h1 x hx
      rw [q] at this
      exact this z
end FF
namespace FF
open PySem PySem.Spec PyProof.Rows L2
variable [LT]
/-! ### sorted(set), any number of members -/
section
variable {P : Program} {w : World} {A : Around} {E : Value → Shared → Prop} {s : Shared}
theorem sorted_setB {a : Addr} {S : Int → Bool} {n : Nat} {Q : Value → Shared → Prop} (R : SetR w s.heap a S n) (hh : A.handled = none) (hn0 : n ≤ 1000)
    (hQ : ∀ s' p (c : Nat) (out : Array Value) (ns : List Int), (∀ b o, s.heap.get? b = some o → s'.heap.get? b = some o) → s'.gens = s.gens → s'.os = s.os → s.heap.objs.size ≤ p →
      s'.heap.get? p = some (seqObj "list" out c) → IntsAre out.toList ns → ns.Pairwise (· < ·) → (∀ k, k ∈ ns ↔ S k = true) → ns.length = n → Q (.ref p) s') :
    wpAny (model P w) A (call (.builtin "sorted") [.ref a]) Q E s := by
  obtain ⟨o, es, ep, t, ho, hx, hd, g, nd, hm, hb, hf, hn, hr, hl⟩ := R
  refine Calls.call_function_entry kind_sorted plain_sorted entry_sorted (args_sorted1 _) ?_
  unfold Builtin.«sorted»
  refine wpAny_bind (m := checkCount "sorted" 1 1 _) (wpAny_pure ?_)
  refine wpAny_bind (collect_set (A := A.in1) hh ⟨o, ho, hx.1, hd⟩ hf hb hr hl fun s1 vs kk hz gg oo pm => ?_)
  have vl : vs.length = n := by rw [pm.length_eq, List.length_map, Array.length_toList]; exact hn
  have hI : IntsAre vs (vs.map Builtin.Re.reRawOf) := ints_of vs fun v hv => by
    obtain ⟨e, he, q⟩ := List.mem_map.mp (pm.mem_iff.mp hv)
    obtain ⟨k, tk, e1, _⟩ := g e he
    exact ⟨k, tk, by rw [← q]; exact e1⟩
  have pk : (vs.map Builtin.Re.reRawOf).Perm (es.toList.map keyOf) := by
    have := pm.map Builtin.Re.reRawOf
    rwa [List.map_map] at this
  have big : vs.length ≤ sizeLine := by rw [vl, sizeLine_eq]; omega
  refine wpAny_bind (wpAny_newList ?_ big)
  have at1 : (s1.heap.push (seqObj "list" vs.toArray 0)).get? s1.heap.objs.size = some (seqObj "list" vs.toArray 0) := Heap.get?_push_size _ rfl
  refine wpAny_bind (wpAny_holding (wpAny_call_entry slot_list_sort ⟨_, at1, rfl⟩ entry_list_sort (SrtO.list_sort_ord SrtO.swo_int at1 big (fun h2 => SrtO.ints_sortable hI h2) fun out q1 q2 => ⟨_, rfl, ?_⟩) (args_list_sort _)))
  obtain ⟨k1, k2, k3⟩ := SrtO.ints_out hI q1 q2
  obtain ⟨c, hc⟩ := sortedHeap_at (vs := vs) (out := out.toArray) at1
  have pn : (out.map SrtO.iv).Perm (es.toList.map keyOf) := k2.trans pk
  refine wpAny_pure ⟨_, rfl, hQ _ s1.heap.objs.size c out.toArray _ (fun b u e => ?_) gg oo hz hc k1 (lt_of_le_nodup _ k3 (pn.nodup_iff.mpr nd)) (fun k => by rw [pn.mem_iff, ← hm k]) ?_⟩
  · have q := kk b u e
    have hlt := Heap.lt_size q
    show (sortedHeap (s1.heap.push (seqObj "list" vs.toArray 0)) s1.heap.objs.size vs out.toArray).get? b = some u
    rw [sortedHeap_old (Nat.ne_of_lt hlt) (by rw [size_push']; exact Nat.lt_succ_of_lt hlt)]
    exact Heap.get?_push_of_some _ q
  · rw [pn.length_eq, List.length_map, Array.length_toList]; exact hn
end
def rSortedSetB (w : World) : List V → Hp → VK → Prop := fun vs H Q => ∃ (a : Addr) (S : Int → Bool) (n : Nat), vs = [V.ref a] ∧ H a = some (SetO w a S n) ∧ n ≤ 1000 ∧
  ∀ (ns : List Int) (p : Addr), ns.Pairwise (· < ·) → (∀ k : Int, k ∈ ns ↔ S k = true) → ns.length = n → H p = none → Q (.ref p) (upd H p (.lst (ns.map V.int)))
section
variable {X : Cx}
theorem cr_sortedSetB (hc : X.calm = true) : CallR X (.builtin "sorted") (rSortedSetB X.w) := by
  intro pins s σ H vs us Q I r h
  obtain ⟨a, S, n, rfl, ha, hn0, q⟩ := h
  rw [Vals.ref1 r]
  refine sorted_setB (setO_get I ha) (I.ok.hd hc) hn0 fun s' p c out ns k g o hp hg hi hs hm hl => ?_
  have hlen : (ns.map V.int).length ≤ sizeLine := by rw [List.length_map, hl, sizeLine_eq]; omega
  have hn : H p = none := I.hok.fresh hp
  have J : Inv X pins σ (upd H p (.lst (ns.map V.int))) { s with heap := s'.heap, gens := s'.gens, drawn := s'.drawn, toks := s'.toks } :=
    I.call (ch := []) (Un.laid k hp hn) (I.hok.laid k hp ⟨hlen, out.toList, c, vals_of_ints hi, hg⟩) (by rw [g]; exact I.bare) (fun _ z => nomatch z)
  have e : { s with heap := s'.heap, gens := s'.gens, drawn := s'.drawn, toks := s'.toks } = s' := by
    cases s'
    cases s
    cases o
    rfl
  rw [← e]
  exact ⟨.ref p, _, J, rfl, q ns p hs hm hl hn⟩
end
end FF
namespace FF
open PySem PySem.Spec PyProof.Rows L2
variable [LT]
/-! ### every second one of a list -/
def ev2 {α : Type} : List α → List α
  | [] => []
  | [x] => [x]
  | x :: _ :: r => x :: ev2 r
theorem ev2_cons {α : Type} (x : α) : ∀ r : List α, ev2 (x :: r) = x :: ev2 r.tail
  | [] => rfl
  | _ :: _ => rfl
theorem ev2_eq {α : Type} : ∀ xs : List α, ((List.range ((xs.length + 1) / 2)).map fun (k : Nat) => 2 * k).filterMap (xs[·]?) = ev2 xs
  | [] => by simp [ev2]
  | [x] => by simp [ev2, List.range_succ]
  | x :: y :: r => by
    have ih := ev2_eq r
    rw [List.filterMap_map] at ih ⊢
    rw [show ((x :: y :: r).length + 1) / 2 = (r.length + 1) / 2 + 1 by rw [List.length_cons, List.length_cons]; omega, List.range_succ_eq_map, List.filterMap_cons]
    show x :: List.filterMap _ _ = x :: ev2 r
    rw [← ih, List.filterMap_map]
    rfl
theorem od2_eq {α : Type} (xs : List α) : ((List.range (xs.length / 2)).map fun (k : Nat) => 1 + 2 * k).filterMap (xs[·]?) = ev2 xs.tail := by
  cases xs with
  | nil => simp [ev2]
  | cons x r =>
    have ih := ev2_eq r
    rw [List.filterMap_map] at ih ⊢
    show _ = ev2 r
    rw [← ih, List.length_cons]
    congr 1
    funext k
    show (x :: r)[1 + 2 * k]? = r[2 * k]?
    rw [Nat.add_comm]
    rfl
theorem ev2_perm {α : Type} : ∀ xs : List α, (ev2 xs ++ ev2 xs.tail).Perm xs
  | [] => .refl _
  | x :: r => by
    rw [ev2_cons]
    exact List.Perm.cons x (List.perm_append_comm.trans (ev2_perm r))
theorem ev2_len {α : Type} (xs : List α) : (ev2 xs).length + (ev2 xs.tail).length = xs.length := by
  rw [← List.length_append]
  exact (ev2_perm xs).length_eq
theorem pick_ev (its : List Value) : slicePick its.toArray none none (some 2) = (ev2 its).toArray := by
  rw [← ev2_eq its]
  unfold slicePick sliceBounds sliceRange
  simp only [Option.getD_some, List.size_toArray, show (2 : Int) > 0 by decide, if_true]
  congr 2
  · funext i
    rw [List.getElem?_toArray]
  · by_cases c : (0 : Int) < (its.length : Int)
    · rw [if_pos c, show (((its.length : Int) - 0 + 2 - 1) / 2).toNat = (its.length + 1) / 2 by omega]
      apply List.map_congr_left
      intro k _
      omega
    · rw [if_neg c, show (its.length + 1) / 2 = 0 by omega]
      rfl
theorem pick_od (its : List Value) : slicePick its.toArray (some 1) none (some 2) = (ev2 its.tail).toArray := by
  rw [← od2_eq its]
  unfold slicePick sliceBounds sliceRange
  simp only [Option.getD_some, List.size_toArray, show (2 : Int) > 0 by decide, if_true, show ¬ ((1 : Int) < 0) by decide, if_false]
  congr 2
  · funext i
    rw [List.getElem?_toArray]
  · by_cases c : max (0 : Int) (min 1 (its.length : Int)) < (its.length : Int)
    · rw [if_pos c, show (((its.length : Int) - max 0 (min 1 (its.length : Int)) + 2 - 1) / 2).toNat = its.length / 2 by omega]
      apply List.map_congr_left
      intro k _
      omega
    · rw [if_neg c, show its.length / 2 = 0 by omega]
      rfl
theorem Vals_ev2 : ∀ {xs : List V} {us : List Value}, Vals xs us → Vals (ev2 xs) (ev2 us)
  | _, _, .nil => .nil
  | _, _, .cons h .nil => .cons h .nil
  | _, _, .cons h (.cons _ t) => .cons h (Vals_ev2 t)
theorem Vals_tail {xs : List V} {us : List Value} (h : Vals xs us) : Vals xs.tail us.tail := by
  cases h with
  | nil => exact .nil
  | cons _ t => exact t
def tEv (K : PySem.W.Frag) (te : TE) : TE := fun σ H Q => te σ H fun x H1 => ∃ a xs, x = .ref a ∧ SqL K H1 a xs ∧ ∀ p, H1 p = none → Q (.ref p) (upd H1 p (.lst (ev2 xs)))
def tOd (K : PySem.W.Frag) (te : TE) : TE := fun σ H Q => te σ H fun x H1 => ∃ a xs, x = .ref a ∧ SqL K H1 a xs ∧ ∀ p, H1 p = none → Q (.ref p) (upd H1 p (.lst (ev2 xs.tail)))
section
variable {X : Cx}
theorem pe_ev {K : PySem.W.Frag} {e : Expr} {te : TE} {k : Nat} {p1 p3 pos : Pos} (he : PE X e te) (hK : X.K = K := by rfl) : PE X (.Subscript e (.Slice none none (some (.Constant (.int 2) k p1)) p3) pos) (tEv K te) := by
  subst hK
  refine ⟨fun pins s σ H Q I h => ?_⟩
  refine Subscript_ (thn (he.run pins s σ H _ I h) fun v s1 ⟨x, H1, I1, r1, q1⟩ => ?_)
  obtain ⟨a, xs, ex, hx, q⟩ := q1
  subst ex
  cases r1
  have hst : PO X (some (.Constant (.int 2) k p1)) (tPart (tC (.int 2))) := po_some pe_int
  refine wpAny_Slice (thn (po_none.run pins s1 σ H1 (fun o H2 => o = none ∧ H2 = H1) I1 ⟨rfl, rfl⟩) fun vl s2 ⟨l, H2, I2, pl, el, e2⟩ => ?_)
  subst el e2
  refine thn (po_none.run pins s2 σ H2 (fun o H3 => o = none ∧ H3 = H2) I2 ⟨rfl, rfl⟩) fun vu s3 ⟨u, H3, I3, pu, eu, e3⟩ => ?_
  subst eu e3
  refine thn (hst.run pins s3 σ H3 (fun o H4 => o = some 2 ∧ H4 = H3) I3 ⟨2, rfl, rfl, rfl⟩) fun vs s4 ⟨o, H4, I4, ps, eo, e4⟩ => ?_
  subst eo e4
  have I5 : L2.Inv X pins σ H4 { s4 with heap := s4.heap.push { cls := .type "slice", data := .fields #[vl, vu, vs] } } := I4.kept (t' := s4.toks) fun b ob q => Heap.get?_push_of_some _ q
  obtain ⟨its, r, ht, hz⟩ := I5.list hx
  have hlen := r.length
  show wpAny (model X.prog X.w) X.A (subscriptTail e (.Slice none none (some (.Constant (.int 2) k p1)) p3) (.ref a) (.ref s4.heap.objs.size)) (EP X pins σ Q) X.xe { s4 with heap := s4.heap.push { cls := .type "slice", data := .fields #[vl, vu, vs] } }
  refine tail_any (ops := [.ref a, .ref s4.heap.objs.size]) ht.isList.typeIs (PySem.slot_list_getitem.lookup) ?_ (by with_unfolding_all rfl)
  refine wpAny_getItem_list_slice ht.isList (Heap.IsSliceOf.new _ vl vu vs) pl pu ps (by decide) ?_ (by rw [List.size_toArray]; omega)
  rw [pick_ev]
  refine ⟨.ref _, _, I5.laid (t' := s4.toks) (o := .lst (ev2 xs)) (fun b ob q => Heap.get?_push_of_some _ q) (Nat.le_refl _) ?_, rfl, q _ (I5.hok.fresh (Nat.le_refl _))⟩
  exact ⟨by have := ev2_len xs; omega, _, 0, Vals_ev2 r, Heap.get?_push_size _ rfl⟩
theorem pe_od {K : PySem.W.Frag} {e : Expr} {te : TE} {k k2 : Nat} {p0 p1 p3 pos : Pos} (he : PE X e te) (hK : X.K = K := by rfl) : PE X (.Subscript e (.Slice (some (.Constant (.int 1) k2 p0)) none (some (.Constant (.int 2) k p1)) p3) pos) (tOd K te) := by
  subst hK
  refine ⟨fun pins s σ H Q I h => ?_⟩
  refine Subscript_ (thn (he.run pins s σ H _ I h) fun v s1 ⟨x, H1, I1, r1, q1⟩ => ?_)
  obtain ⟨a, xs, ex, hx, q⟩ := q1
  subst ex
  cases r1
  have hlo : PO X (some (.Constant (.int 1) k2 p0)) (tPart (tC (.int 1))) := po_some pe_int
  have hst : PO X (some (.Constant (.int 2) k p1)) (tPart (tC (.int 2))) := po_some pe_int
  refine wpAny_Slice (thn (hlo.run pins s1 σ H1 (fun o H2 => o = some 1 ∧ H2 = H1) I1 ⟨1, rfl, rfl, rfl⟩) fun vl s2 ⟨l, H2, I2, pl, el, e2⟩ => ?_)
  subst el e2
  refine thn (po_none.run pins s2 σ H2 (fun o H3 => o = none ∧ H3 = H2) I2 ⟨rfl, rfl⟩) fun vu s3 ⟨u, H3, I3, pu, eu, e3⟩ => ?_
  subst eu e3
  refine thn (hst.run pins s3 σ H3 (fun o H4 => o = some 2 ∧ H4 = H3) I3 ⟨2, rfl, rfl, rfl⟩) fun vs s4 ⟨o, H4, I4, ps, eo, e4⟩ => ?_
  subst eo e4
  have I5 : L2.Inv X pins σ H4 { s4 with heap := s4.heap.push { cls := .type "slice", data := .fields #[vl, vu, vs] } } := I4.kept (t' := s4.toks) fun b ob q => Heap.get?_push_of_some _ q
  obtain ⟨its, r, ht, hz⟩ := I5.list hx
  have hlen := r.length
  show wpAny (model X.prog X.w) X.A (subscriptTail e (.Slice (some (.Constant (.int 1) k2 p0)) none (some (.Constant (.int 2) k p1)) p3) (.ref a) (.ref s4.heap.objs.size)) (EP X pins σ Q) X.xe { s4 with heap := s4.heap.push { cls := .type "slice", data := .fields #[vl, vu, vs] } }
  refine tail_any (ops := [.ref a, .ref s4.heap.objs.size]) ht.isList.typeIs (PySem.slot_list_getitem.lookup) ?_ (by with_unfolding_all rfl)
  refine wpAny_getItem_list_slice ht.isList (Heap.IsSliceOf.new _ vl vu vs) pl pu ps (by decide) ?_ (by rw [List.size_toArray]; omega)
  rw [pick_od]
  refine ⟨.ref _, _, I5.laid (t' := s4.toks) (o := .lst (ev2 xs.tail)) (fun b ob q => Heap.get?_push_of_some _ q) (Nat.le_refl _) ?_, rfl, q _ (I5.hok.fresh (Nat.le_refl _))⟩
  exact ⟨by have := ev2_len xs; omega, _, 0, Vals_ev2 (Vals_tail r), Heap.get?_push_size _ rfl⟩
end
end FF
namespace FF
open PySem PySem.Spec PyProof.Rows L2
variable [LT]
/-! ### numbers in the order of their first places -/
/-! ### the parting around lots -/
/-! ### tight lots -/
structure TightL (ts : List (Int × Int)) (n k : Int) (ws : List V) (ls : List Int) : Prop where
  lot : Lot n ls
  tight : ∀ f, 0 ≤ f → f < k → inside ls (layerOf ts ws f) + 1 = ls.length
theorem nub_all {l : List Int} (h : (nub l).length = 1) {a b : Int} (ha : a ∈ l) (hb : b ∈ l) : a = b := by
  have ha := (mem_nub l a).mpr ha
  have hb := (mem_nub l b).mpr hb
  match nub l, h, ha, hb with
  | [c], _, ha, hb => rw [List.mem_singleton.mp ha, List.mem_singleton.mp hb]
theorem tight_joined {n : Int} {ls : List Int} {L : List (Int × Int)} (h : ringlessF (fun x => x) L = true) (hl : Lot n ls) (ht : inside ls L + 1 = ls.length) {x y : Int} (hx : x ∈ ls) (hy : y ∈ ls) :
    foldR (fun x => x) (L.filter fun t => decide (t.1 ∈ ls) && decide (t.2 ∈ ls)) x = foldR (fun x => x) (L.filter fun t => decide (t.1 ∈ ls) && decide (t.2 ∈ ls)) y := by
  have c := lot_count (ls := ls) (ringlessF_filter (fun t => decide (t.1 ∈ ls) && decide (t.2 ∈ ls)) h) fun t ht => by
    have := (List.mem_filter.mp ht).2
    rw [Bool.and_eq_true, decide_eq_true_eq, decide_eq_true_eq] at this
    exact this
  rw [List.map_id', nub_of_nd hl.nd] at c
  have ht : (L.filter fun t => decide (t.1 ∈ ls) && decide (t.2 ∈ ls)).length + 1 = ls.length := ht
  exact nub_all (by omega) (List.mem_map.mpr ⟨x, hx, rfl⟩) (List.mem_map.mpr ⟨y, hy, rfl⟩)
/-! ### a lot stays tight -/
theorem laidT_sub : ∀ {ts : List (Int × Int)} {ws ws' : List V}, ws'.length = ws.length → (∀ i : Nat, ws'[i]? = some .non → ws[i]? = some .non) → (laidT ts ws).Sublist (laidT ts ws')
  | [], _, _, _, _ => by
    unfold laidT
    rw [List.zip_nil_left]
    exact List.nil_sublist _
  | t :: ts, [], _, _, _ => by
    unfold laidT
    rw [List.zip_nil_right]
    exact List.nil_sublist _
  | t :: ts, x :: ws, [], hl, _ => by cases hl
  | t :: ts, x :: ws, y :: ws', hl, h => by
    rw [laidT_cons, laidT_cons]
    refine List.Sublist.append ?_ (laidT_sub (Nat.succ.inj hl) fun i => h (i + 1))
    by_cases e : y = V.non
    · have h0 := h 0
      have : x = V.non := Option.some.inj (h0 (by rw [e]; rfl))
      rw [if_pos this]
      exact List.nil_sublist _
    · rw [if_neg e]
      split
      · exact List.nil_sublist _
      · exact .refl _
theorem TightL.stay {ts : List (Int × Int)} {n k : Int} {ws ws' : List V} {ls : List Int} (h : TightL ts n k ws ls) (hk : 0 ≤ k) (hL : LayK ts k ws) (hL' : LayK ts k ws') (hs : ∀ i : Nat, ws'[i]? = some .non → ws[i]? = some .non) : TightL ts n k ws' ls := by
  refine ⟨h.lot, fun f f0 f1 => ?_⟩
  have h1 := (tight_iff hL hk h.lot.nd h.lot.ne).mpr fun f f0 f1 => by have := h.tight f f0 f1; omega
  have hsub : inside ls (laidT ts ws) ≤ inside ls (laidT ts ws') := ((laidT_sub (hL'.len.trans hL.len.symm) hs).filter _).length_le
  have hmost := (sum_most (s := (ls.length : Int) - 1) (g := fun f => (inside ls (layerOf ts ws' f) : Int)) (l := upTo k) fun f _ => by
    have := inside_forest (hL'.tree f) h.lot.nd h.lot.ne
    show (inside ls (layerOf ts ws' f) : Int) ≤ _
    omega).1
  rw [← inside_laid ls hL'.len hL'.each, upTo_length, show ((k.toNat : Nat) : Int) = k by omega] at hmost
  have := (tight_iff hL' hk h.lot.nd h.lot.ne).mp (by omega) f f0 f1
  omega
theorem Full_.tight {ts : List (Int × Int)} {n k : Int} {ws : List V} {tie : Nat} {ls R : List Int} (hL : LayK ts k ws) (h : Full_ ts n k ws tie ls R) : TightL ts n k ws ls ∧ (tk ts (tie : Int)).1 ∈ ls ∧ (tk ts (tie : Int)).2 ∈ ls := by
  obtain ⟨h1, h2, h3, h4, _⟩ := h
  refine ⟨⟨h1, fun f f0 f1 => h3.tree hL.len h2 (fun z => by rw [z] at h4; cases h4) hL.tree f0 f1⟩, (h2.mem _).mpr ⟨_, h4, .inl rfl⟩, (h2.mem _).mpr ⟨_, h4, .inr rfl⟩⟩
end FF
namespace FF
open PySem PySem.Spec PyProof.Rows L2
variable [LT]
/-! ### len of a dict, and layings that grow with lots noted -/
/-- None or a lot -/
def LoV (H : Hp) (x : V) (o : Option (List Int)) : Prop := match o with
  | none => x = .non
  | some ls => ∃ q, x = .ref q ∧ H q = some (.tup (ls.map V.int))
def LoP (H : Hp) (xs : List V) (lo : List (Option (List Int))) : Prop := Paired (LoV H) xs lo
theorem LoP.mono {H H' : Hp} {xs : List V} {lo : List (Option (List Int))} (h : LoP H xs lo) (k : ∀ q xs, H q = some (.tup xs) → H' q = some (.tup xs)) : LoP H' xs lo := L2.Paired.mapP h fun x o z => by
  cases o with
  | none => exact z
  | some ls =>
    obtain ⟨q, e, z⟩ := z
    exact ⟨q, e, k q _ z⟩
theorem LoP.ke {H H' : Hp} {xs : List V} {lo : List (Option (List Int))} (h : LoP H xs lo) (k : Ke H H') : LoP H' xs lo := h.mono fun _ _ => k.tup
theorem LoP.length {H : Hp} {xs : List V} {lo : List (Option (List Int))} (h : LoP H xs lo) : xs.length = lo.length := Paired.length h
theorem LoP.set {H : Hp} {x : V} {o : Option (List Int)} (hx : LoV H x o) : ∀ {xs : List V} {lo : List (Option (List Int))} (i : Nat), LoP H xs lo → LoP H (xs.set i x) (lo.set i o)
  | _, _, _, .nil => .nil
  | _, _, 0, .cons _ t => .cons hx t
  | _, _, i + 1, .cons h t => .cons h (LoP.set hx i t)
theorem LoP.get {H : Hp} : ∀ {xs : List V} {lo : List (Option (List Int))} {i : Nat} {x : V}, LoP H xs lo → xs[i]? = some x → ∃ o, lo[i]? = some o ∧ LoV H x o
  | _, _, 0, _, .cons h _, e => by cases e; exact ⟨_, rfl, h⟩
  | _, _, i + 1, _, .cons _ t, e => LoP.get (i := i) t e
end FF
namespace FF
open PySem PySem.Spec PyProof.Rows L2
variable [LT]
/-! ### no laying lays more than the bound of a parting -/
end FF
namespace FF
open PySem PySem.Spec PyProof.Rows L2
variable [LT]
/-! ### min of a list -/
/-! ### all partings -/
end FF
namespace FF
open PySem PySem.Spec PyProof.Rows L2
variable [LT]
/-! ### as few forests as do -/
theorem LoV.mono {H H' : Hp} {x : V} {o : Option (List Int)} (h : LoV H x o) (k : ∀ q xs, H q = some (.tup xs) → H' q = some (.tup xs)) : LoV H' x o := by
  cases o with
  | none => exact h
  | some ls =>
    obtain ⟨q, e, z⟩ := h
    exact ⟨q, e, k q _ z⟩
end FF
namespace FF
open PySem PySem.Spec PyProof.Rows L2
variable [LT]
/-! ### an empty tuple times an int -/
section
variable {X : Cx}
end
/-! ### whether no lot is full, by all lots -/
def canF (n : Nat) (ts : List (Int × Int)) (k : Int) : Bool := ((lotsF n).filter fun l => !l.isEmpty).all fun l => decide ((inside l ts : Int) ≤ k * ((l.length : Int) - 1))
theorem canF_iff {n : Nat} {ts : List (Int × Int)} {k : Int} : canF n ts k = true ↔ ∀ ls, Lot (n : Int) ls → (inside ls ts : Int) ≤ k * ((ls.length : Int) - 1) := by
  unfold canF
  rw [List.all_eq_true]
  constructor
  · intro h ls hL
    refine of_decide_eq_true (h ls (List.mem_filter.mpr ⟨lotsF_all n hL.up hL.ok, ?_⟩))
    cases ls with
    | nil => exact absurd rfl hL.ne
    | cons _ _ => rfl
  · intro h l hl
    obtain ⟨h1, h2⟩ := List.mem_filter.mp hl
    obtain ⟨o1, o2, _⟩ := lotsF_ok n l h1
    exact decide_eq_true (h l ⟨fun z => (by rw [z] at h2; cases h2), o1, o2⟩)
end FF
namespace FF
open PySem PySem.Spec PyProof.Rows L2
variable [LT]
/-! ### webs of which the fewest forests are known -/
end FF
namespace FF
open PySem PySem.Spec PyProof.Rows L2
variable [LT]
/-! ### [.. for .. in .. for .. in ..] -/
section
variable {X : Cx}
end
end FF
namespace FF
open PySem PySem.Spec PyProof.Rows L2
variable [LT]
/-! ### xs.remove(y): data of any depth -/
section
variable {X : Cx}
open PyProof
end
/-! ### ties at a point -/
end FF
namespace FF
open PySem PySem.Spec PyProof.Rows L2
variable [LT]
/-! ### defs that raise; try .. except; isinstance of what was caught -/
theorem DefAt.okE {P : Program} {w : World} {K : PySem.W.Frag} {mg : Str → Option Value} {base : Heap} {x : Str} {st : Stmt} {f : Addr} {fd : FuncData} {N ps : List Str} {k : Nat} {sp : Sp} (D : DefAt K mg x st ps f fd) (S : FnScope N ps (defScope st)) (len : ∀ vs H Q E, sp vs H Q E → vs.length = ps.length)
    (hbody : ∀ (A : Around) (outer : List Env) (s : Shared) (H : Hp) (vs : List V) (Q : VK) (E : XK), Room k (A.deeper (envOfC x (defScope st) s.heap.objs.size f fd.code)) → sp vs H Q E →
      ∃ t, PSs (cxOf (L2.CX P w) P w K mg base N x (defScope st) f fd.code A outer s H E) (defBody st) t ∧ t { nx := fun _ H' => Q .non H', rt := Q } (start N vs) H) : FnOk P w K mg base (L2.CX P w) (k + 1) f fd ps sp := by
  obtain ⟨oc, od, dV, kV, doc, pm, an, cdv, ct, osl, rfl, lk, hcd, _, _⟩ := D.F.ex
  exact fn_of lk hcd S len hbody
/-! #### what is told of the classes -/
inductive Xf where
  | glo (x : Str) | exc (x : Str) | ec (x : Str) | exm (x y : Str) (b : Bool) | kit (x y : Str) (b : Bool) | kitT (x : Str) (t : String) (b : Bool)
  deriving DecidableEq
def ecB (K : PySem.W.Frag) (D : Addr) : Bool :=
  He.eqO (PySem.W.findIn K (.ref D) "__getattribute__") (some (some (.builtin "BaseException.__getattribute__"))) && (He.eqO (PySem.W.findIn K (.ref D) "__getattr__") (some none) &&
  (decide (PySem.W.subIn K (.ref D) (.type "BaseException") = some true) && (PySem.W.hasDictIn K D && (He.eqO (PySem.W.findIn K (.ref D) "__class__") (some (some (.builtin "object.__class__"))) &&
  (He.eqO (PySem.W.specialIn K (.builtin "object.__class__") "__get__") (some (some (.builtin "getset_descriptor.__get__"))) && (decide (PySem.W.takesIn K (.builtin "object.__class__") = some true) && decide (PySem.W.mroIn K D (.type "object") = some true)))))))
def Xf.ok (K : PySem.W.Frag) : Xf → Bool
  | .glo x => (He.Fa.glo x).ok K
  | .exc x => (He.Fa.exc x).ok K
  | .ec x => ecB K (He.ga K x)
  | .exm x y b => (He.Fa.exm x y b).ok K
  | .kit x y b => decide (PySem.W.kitOne K (.ref (He.ga K x)) (.ref (He.ga K y)) = some b)
  | .kitT x t b => decide (PySem.W.kitOne K (.ref (He.ga K x)) (.type t) = some b)
theorem ec_ok {K : PySem.W.Frag} {x : Str} (c : (Xf.ec x).ok K = true) : ExcC K (He.ga K x) := by
  obtain ⟨c1, c⟩ := He.ba c
  obtain ⟨c2, c⟩ := He.ba c
  obtain ⟨c3, c⟩ := He.ba c
  obtain ⟨c4, c⟩ := He.ba c
  obtain ⟨c5, c⟩ := He.ba c
  obtain ⟨c6, c⟩ := He.ba c
  obtain ⟨c7, c8⟩ := He.ba c
  exact ⟨He.eqO_ok c1, He.eqO_ok c2, of_decide_eq_true c3, c4, He.eqO_ok c5, He.eqO_ok c6, of_decide_eq_true c7, of_decide_eq_true c8⟩
/-- the classes' facts -/
structure Xcs (xfs : List Xf) (K : PySem.W.Frag) (mg : Str → Option Value) : Prop where
  ok : ∀ f ∈ xfs, f.ok K = true
  g : ∀ x, Xf.glo x ∈ xfs → mg x = some (.ref (He.ga K x))
section
variable {xfs : List Xf} {K : PySem.W.Frag} {mg : Str → Option Value} (c : Xcs xfs K mg)
include c
theorem Xcs.exm {x y : Str} {b : Bool} (h : Xf.exm x y b ∈ xfs) : PySem.W.exmOne K (.ref (He.ga K x)) (.ref (He.ga K y)) = some b := He.exm_ok (c.ok _ h)
theorem Xcs.kit {x y : Str} {b : Bool} (h : Xf.kit x y b ∈ xfs) : PySem.W.kitOne K (.ref (He.ga K x)) (.ref (He.ga K y)) = some b := of_decide_eq_true (c.ok _ h)
theorem Xcs.kitT {x : Str} {t : String} {b : Bool} (h : Xf.kitT x t b ∈ xfs) : PySem.W.kitOne K (.ref (He.ga K x)) (.type t) = some b := of_decide_eq_true (c.ok _ h)
theorem Xcs.ec {x : Str} (h : Xf.ec x ∈ xfs) : ExcC K (He.ga K x) := ec_ok (c.ok _ h)
end
/-! #### what was caught, frozen -/
section
variable {X : Cx}
end
/-! #### try: .. except x as n: suite; what was caught stays, frozen -/
section
variable {X : Cx} {x n : Str} {c : Value} {i : Nat} {body suite : List Stmt} {b0 : Stmt} {np pos pos' : Pos} {tb : WX → TS} {ts : Addr → Value → Option Addr → TS} {Wo : WX}
end
end FF
namespace FF
open PySem PySem.Spec PyProof.Rows L2
variable [LT]
/-! ### drawn partings -/
end FF
namespace FF
open PySem PySem.Spec PyProof.Rows L2
variable [LT]
/-! ### webs drawn together -/
theorem rise_nd {ls : List Int} (h : ls.Pairwise (· < ·)) : ls.Nodup := h.imp fun z => by omega
/-! ### lots that are walked; the data of webs -/
theorem Lot.le {n : Int} {ls : List Int} (h : Lot n ls) : (ls.length : Int) ≤ n := by
  obtain ⟨x, hx⟩ := List.exists_mem_of_ne_nil _ h.ne
  have := h.ok x hx
  have := nd_le (rise_nd h.up) (m := upTo n) fun y hy => upTo_mem.mpr (h.ok y hy)
  rw [upTo_length] at this
  omega
theorem Lot.tie {n a b : Int} (h0 : 0 ≤ a) (h1 : a < b) (h2 : b < n) : Lot n [a, b] := ⟨List.cons_ne_nil _ _, .cons (fun y hy => by rw [List.mem_singleton.mp hy]; exact h1) (List.pairwise_singleton _ _), fun x hx => by
  rcases List.mem_cons.mp hx with rfl | hx
  · exact ⟨h0, by omega⟩
  · rw [List.mem_singleton.mp hx]
    exact ⟨by omega, h2⟩⟩
def dWeb (n : Int) (ts : List (Int × Int)) : PyData := .tuple [.int n, dE ts]
theorem Web.dp {K : PySem.W.Frag} {H : Hp} {v : V} {n : Int} {ts : List (Int × Int)} (W : Web H v n ts) : Dp K H v (dWeb n ts) := by
  obtain ⟨t, u, rs, rfl, h1, h2, h3⟩ := W
  exact .tup (sqT_of h1) (.cons (.int _) (.cons (.tup (sqT_of h2) h3.dpA) .nil))
theorem Lot.head {n : Int} {ls : List Int} (h : Lot n ls) : ls.headD 0 ∈ ls := by
  cases e : ls with
  | nil => exact absurd e h.ne
  | cons x r => exact List.mem_cons_self
end FF
namespace FF
open PySem PySem.Spec PyProof.Rows L2
variable [LT]
/-! ### sorted(tuple of ints) -/
section
variable {prog : Program} {w : World} {A : Around} {E : Value → Shared → Prop} {s : Shared}
theorem collect_tupI {l : Addr} {vs : List Value} {Q : List Value → Shared → Prop} (hl : s.heap.IsTuple l vs.toArray) (hz : vs.length ≤ sizeLine)
    (h : ∀ h', (∀ b o, s.heap.get? b = some o → h'.get? b = some o) → s.heap.objs.size ≤ h'.objs.size → Q vs { s with heap := h' }) : wpAny (model prog w) A (collect (.ref l)) Q E s := by
  obtain ⟨o, ho, hc, n, hd⟩ := id hl
  unfold collect
  refine wpAny_bind (wpAny_runValue (codeAny_builtin entry_proto_collect' ?_))
  show wpAny _ _ (do again (.builtin "list.__iadd__" ⟨[← newList [], .ref l], []⟩)) _ _ s
  refine wpAny_bind (wpAny_newList (wpAny_pure ⟨Code.quiet_builtin _ (by decide +kernel), codeAny_builtin entry_list_iadd' ?_⟩))
  show wpAny _ _ (Builtin.List.listExtendWith (.ref s.heap.objs.size) (.ref l) (.ref s.heap.objs.size)) _ _ { s with heap := s.heap.push (seqObj "list" #[] 0) }
  have at0 : (s.heap.push (seqObj "list" #[] 0)).get? s.heap.objs.size = some (seqObj "list" #[] 0) := Heap.get?_push_size _ rfl
  have at1 : (s.heap.push (seqObj "list" #[] 0)).get? l = some o := Heap.get?_push_of_some _ ho
  unfold Builtin.List.listExtendWith
  refine wpAny_bind (wpAny_typeOf (T := "tuple") ⟨o, at1, hc⟩ ?_)
  rw [if_pos (by rw [show (Value.type "tuple" == Value.type "tuple") = true from rfl]; simp)]
  refine wpAny_bind (listItems_at at1 hd (wpAny_bind (listItems_at at0 rfl ?_)))
  rw [if_neg (by simp)]
  refine wpAny_bind (listUpdate_at at0 rfl ?_ (Nat.zero_le _) (by show (#[] ++ vs.toArray).size ≤ sizeLine + 1; simp only [Array.size_append, List.size_toArray, List.length_nil]; omega))
  refine wpAny_pure ?_
  show wpAny (model prog w) A (do
      let r ← load s.heap.objs.size
      match r.data with
      | .seq xs _ => pure xs.toList
      | _ => unsupported "internal:collect") Q E { s with heap := (s.heap.push (seqObj "list" #[] 0)).update s.heap.objs.size (Obj.mapSeq (· ++ vs.toArray)) }
  refine wpAny_bind (wpAny_load (get?_update_seq at0 _) ?_)
  show wpAny _ _ (pure ((#[] : Array Value) ++ vs.toArray).toList) Q E _
  rw [show ((#[] : Array Value) ++ vs.toArray).toList = vs by simp]
  refine wpAny_pure (h _ (fun b ob e => ?_) ?_)
  · rw [Heap.get?_update_ne _ _ _ _ (Nat.ne_of_lt (Heap.lt_size e))]
    exact Heap.get?_push_of_some _ e
  · rw [Heap.size_update, size_push']
    exact Nat.le_succ _
theorem sorted_tupI {l : Addr} {vs : List Value} {ns : List Int} {Q : Value → Shared → Prop} (hl : s.heap.IsTuple l vs.toArray) (hI : IntsAre vs ns) (hz : vs.length ≤ sizeLine)
    (hQ : ∀ h' p (c : Nat) (out : Array Value) (ms : List Int), (∀ b o, s.heap.get? b = some o → h'.get? b = some o) → s.heap.objs.size ≤ p → h'.get? p = some (seqObj "list" out c) → IntsAre out.toList ms → ms.Perm ns → ms.Pairwise (· ≤ ·) → Q (.ref p) { s with heap := h' }) :
    wpAny (model prog w) A (call (.builtin "sorted") [.ref l]) Q E s := by
  refine Calls.call_function_entry kind_sorted plain_sorted entry_sorted (args_sorted1 _) ?_
  unfold Builtin.«sorted»
  refine wpAny_bind (m := checkCount "sorted" 1 1 _) (wpAny_pure (wpAny_bind (collect_tupI hl hz fun h1 kk hs => ?_)))
  refine wpAny_bind (wpAny_newList ?_ hz)
  have at1 : (h1.push (seqObj "list" vs.toArray 0)).get? h1.objs.size = some (seqObj "list" vs.toArray 0) := Heap.get?_push_size _ rfl
  refine wpAny_bind (wpAny_holding (wpAny_call_entry slot_list_sort ⟨_, at1, rfl⟩ entry_list_sort (SrtO.list_sort_ord SrtO.swo_int at1 hz (fun h2 => SrtO.ints_sortable hI h2) fun out q1 q2 => ⟨_, rfl, ?_⟩) (args_list_sort _)))
  obtain ⟨k1, k2, k3⟩ := SrtO.ints_out hI q1 q2
  obtain ⟨c, hc⟩ := sortedHeap_at (vs := vs) (out := out.toArray) at1
  refine wpAny_pure ⟨_, rfl, hQ _ h1.objs.size c out.toArray _ (fun b u e => ?_) hs hc k1 k2 k3⟩
  have hlt := Heap.lt_size (kk b u e)
  rw [sortedHeap_old (Nat.ne_of_lt hlt) (by rw [size_push']; exact Nat.lt_succ_of_lt hlt)]
  exact Heap.get?_push_of_some _ (kk b u e)
end
/-- sorted(t), t a tuple of ints -/
def rSortedTI (K : PySem.W.Frag) : List V → Hp → VK → Prop := fun vs H Q => ∃ (a : Addr) (ns : List Int), vs = [V.ref a] ∧ SqT K H a (ns.map V.int) ∧
  ∀ (ms : List Int) (p : Addr), ms.Perm ns → ms.Pairwise (· ≤ ·) → H p = none → Q (.ref p) (upd H p (.lst (ms.map V.int)))
theorem cr_sortedTI {X : Cx} {K : PySem.W.Frag} (h : X.K = K := by rfl) : CallR X (.builtin "sorted") (rSortedTI K) := by
  subst h
  intro pins s σ H vs us Q I r h
  obtain ⟨a, ns, rfl, hs, q⟩ := h
  obtain ⟨its, rv, t1, hz⟩ := I.tuple hs
  rw [Vals.ref1 r]
  have hi := rv.ints
  refine sorted_tupI (show s.heap.IsTuple a its.toArray from t1) hi (by rw [← rv.length]; exact hz) fun h' p c out ms kk hp hg hm h2 h3 => ?_
  have hlen : (ms.map V.int).length ≤ sizeLine := by
    rw [List.length_map, h2.length_eq]
    rw [List.length_map] at hz
    exact hz
  exact ⟨.ref p, upd H p (.lst (ms.map V.int)), I.laid (t' := s.toks) kk hp ⟨hlen, out.toList, c, vals_of_ints hm, hg⟩, rfl, q ms p h2 h3 (I.hok.fresh hp)⟩
end FF
namespace FF
open PySem PySem.Spec PyProof.Rows L2
variable [LT]
/-! ### glued layings -/
theorem shaped_OL (ws : List V) : SeqAt.shaped (.list (ws.map dO)) = true := (Sh.lst (k := 0) fun d hd => by
  obtain ⟨x, _, rfl⟩ := List.mem_map.mp hd
  exact sh_O).shaped
theorem eqv_OL (ws : List V) : PyData.eqv (.list (ws.map dO)) (.list (ws.map dO)) = true := SeqAt.eqv_refl _ (SeqAt.canLay_of_shaped (shaped_OL ws))
end FF
namespace FF
open PySem PySem.Spec PyProof.Rows L2
variable [LT]
/-! ### lots of the inner web, in the web -/
end FF
namespace FF
open PySem PySem.Spec PyProof.Rows L2
variable [LT]
/-! ### things that are looked at as webs -/
def tieO (n : Int) : Option (List V) → Bool
  | some [x, .int j] => isNum (.int j) 0 (n - 1) && isNum x 0 (j - 1)
  | _ => false
inductive WT (H : Hp) : V → Bool → Prop
  | no {v : V} {nm : String} (h : TyN H v nm) (hn : nm ≠ "tuple") : WT H v false
  | len {a : Addr} {xs : List V} (h : H a = some (.tup xs)) (hl : xs.length ≠ 2) : WT H (.ref a) false
  | pts {a : Addr} {x y : V} {nm : String} (h : H a = some (.tup [x, y])) (hx : TyN H x nm) (hb : isNum x 1 40 = false) : WT H (.ref a) false
  | tys {a : Addr} {n : Int} {y : V} {nm : String} (h : H a = some (.tup [.int n, y])) (h0 : 1 ≤ n) (h1 : n ≤ 40) (hy : TyN H y nm) (hn : nm ≠ "tuple") : WT H (.ref a) false
  | many {a u : Addr} {n : Int} {rs : List V} (h : H a = some (.tup [.int n, .ref u])) (h0 : 1 ≤ n) (h1 : n ≤ 40) (hu : H u = some (.tup rs)) (hl : 120 < rs.length) : WT H (.ref a) false
  | ties {a u : Addr} {n : Int} {rs : List V} {os : List (Option (List V))} (h : H a = some (.tup [.int n, .ref u])) (h0 : 1 ≤ n) (h1 : n ≤ 40) (hu : H u = some (.tup rs)) (hl : rs.length ≤ 120) (hr : Paired (Tpl H) rs os) : WT H (.ref a) (os.all (tieO n))
theorem Ties.tpl {H : Hp} : ∀ {rs : List V} {ts : List (Int × Int)}, Ties H rs ts → Paired (Tpl H) rs (ts.map fun t => some [V.int t.1, .int t.2])
  | _, _, .nil => .nil
  | _, _, .cons ⟨q, e, h⟩ t => by
    subst e
    exact .cons (.yes h fun x hx => by
      rcases List.mem_cons.mp hx with rfl | hx
      · exact ⟨_, .int _⟩
      · rw [List.mem_singleton.mp hx]
        exact ⟨_, .int _⟩) (Ties.tpl t)
theorem tieO_ok {n : Int} {t : Int × Int} : tieO n (some [V.int t.1, .int t.2]) = true ↔ 0 ≤ t.1 ∧ t.1 < t.2 ∧ t.2 < n := by
  show (((decide (0 ≤ t.2) && decide (t.2 ≤ n - 1)) && (decide (0 ≤ t.1) && decide (t.1 ≤ t.2 - 1))) = true) ↔ _
  rw [Bool.and_eq_true, Bool.and_eq_true, Bool.and_eq_true, decide_eq_true_eq, decide_eq_true_eq, decide_eq_true_eq, decide_eq_true_eq]
  omega
theorem Web.wt {H : Hp} {v : V} {n : Int} {ts : List (Int × Int)} (W : Web H v n ts) (ok : TOk n ts) (h0 : 1 ≤ n) (h1 : n ≤ 40) (hl : ts.length ≤ 120) : WT H v true := by
  obtain ⟨t, u, rs, rfl, h2, h3, h4⟩ := W
  have e : ((ts.map fun t => some [V.int t.1, .int t.2]).all (tieO n)) = true := List.all_eq_true.mpr fun o ho => by
    obtain ⟨t, ht, rfl⟩ := List.mem_map.mp ho
    exact tieO_ok.mpr (ok t ht)
  rw [← e]
  exact .ties h2 h0 h1 h3 (by rw [h4.length]; exact hl) h4.tpl
theorem WT.ke {H H' : Hp} {v : V} {b : Bool} (h : WT H v b) (k : Ke H H') : WT H' v b := by
  cases h with
  | no h hn => exact .no (h.ke k) hn
  | len h hl => exact .len (k.tup h) hl
  | pts h hx hb => exact .pts (k.tup h) (hx.ke k) hb
  | tys h h0 h1 hy hn => exact .tys (k.tup h) h0 h1 (hy.ke k) hn
  | many h h0 h1 hu hl => exact .many (k.tup h) h0 h1 (k.tup hu) hl
  | ties h h0 h1 hu hl hr => exact .ties (k.tup h) h0 h1 (k.tup hu) hl (Paired.mapP hr fun _ _ z => z.ke k)
end FF
namespace FF
open PySem PySem.Spec PyProof.Rows L2
variable [LT]
/-! ### rows of things that are not ties, and of things that are no webs -/
theorem WT.mono {H H' : Hp} {v : V} {b : Bool} (h : WT H v b) (k : ∀ q xs, H q = some (.tup xs) → H' q = some (.tup xs)) (y : ∀ v n, TyN H v n → TyN H' v n) : WT H' v b := by
  cases h with
  | no h hn => exact .no (y _ _ h) hn
  | len h hl => exact .len (k _ _ h) hl
  | pts h hx hb => exact .pts (k _ _ h) (y _ _ hx) hb
  | tys h h0 h1 hy hn => exact .tys (k _ _ h) h0 h1 (y _ _ hy) hn
  | many h h0 h1 hu hl => exact .many (k _ _ h) h0 h1 (k _ _ hu) hl
  | ties h h0 h1 hu hl hr => exact .ties (k _ _ h) h0 h1 (k _ _ hu) hl (Paired.mapP hr fun _ _ z => z.mono k y)
/-- points that are none, with any ties -/
structure PTs (H : Hp) (xs : List V) : Prop where
  all : ∀ x ∈ xs, ∃ nm, TyN H x nm ∧ isNum x 1 40 = false
theorem PTs.nil {H : Hp} : PTs H [] := ⟨fun _ z => nomatch z⟩
theorem PTs.cons {H : Hp} {x : V} {nm : String} {xs : List V} (h : TyN H x nm) (e : isNum x 1 40 = false) (t : PTs H xs) : PTs H (x :: xs) := ⟨fun y hy => by
  rcases List.mem_cons.mp hy with rfl | hy
  · exact ⟨nm, h, e⟩
  · exact t.all y hy⟩
theorem PTs.ke {H H' : Hp} {xs : List V} (h : PTs H xs) (k : Ke H H') : PTs H' xs := ⟨fun x hx => by
  obtain ⟨o, t, e⟩ := h.all x hx
  exact ⟨o, t.ke k, e⟩⟩
theorem PTs.sub {H : Hp} {xs ys : List V} (h : PTs H xs) (k : ∀ y ∈ ys, y ∈ xs) : PTs H ys := ⟨fun y hy => h.all y (k y hy)⟩
theorem PTs.new {H : Hp} {p : Addr} {o : HO} {xs : List V} (h : PTs H xs) (k : H p = none) : PTs (upd H p o) xs := h.ke (Ke.new k)
theorem PTs.wt {H H' : Hp} {xs : List V} {x y : V} {p : Addr} (h : PTs H xs) (hx : x ∈ xs) (k : Ke H H') (hp : H' p = some (.tup [x, y])) : WT H' (.ref p) false := by
  obtain ⟨nm, t, e⟩ := h.all x hx
  exact .pts hp (t.ke k) e
end FF
namespace FF
open PySem PySem.Spec PyProof.Rows L2
variable [LT]
/-! ### l != [] by lengths alone -/
section
variable {X : Cx}
end
/-! ### str(x) of an int or None -/
section
variable {X : Cx}
end
end FF
namespace FF
open PySem PySem.Spec PyProof.Rows L2
variable [LT]
/-! ### how many ties lie between the parts: paths, rounds, full webs -/
/-! ### the most trees of webs that are known -/
end FF
namespace FF
open PySem PySem.Spec PyProof.Rows L2
variable [LT]
/-! ### a class by its name, within a suite too -/
end FF
namespace FF
open PySem PySem.Spec PyProof.Rows L2
variable [LT]
/-! ### tuples that are known to the object: displays and + -/
/-- kinds of things, tuples known to the object among them -/
inductive TyF (H : Hp) : V → String → Prop where
  | non : TyF H .non "NoneType"
  | bl (b : Bool) : TyF H (.bl b) "bool"
  | int (i : Int) : TyF H (.int i) "int"
  | str (x : Str) : TyF H (.str x) "str"
  | lst {a : Addr} {xs : List V} (h : H a = some (.lst xs)) : TyF H (.ref a) "list"
  | tup {a : Addr} {xs : List V} (h : H a = some (.tup xs)) : TyF H (.ref a) "tuple"
  | dic {a : Addr} {kvs : List (Key × V)} (h : H a = some (.dK kvs)) : TyF H (.ref a) "dict"
  | tf {a : Addr} {xs : List V} (h : TF H a xs) : TyF H (.ref a) "tuple"
theorem TyN.f {H : Hp} {v : V} {n : String} (h : TyN H v n) : TyF H v n := by
  cases h with
  | non => exact .non
  | bl b => exact .bl b
  | int i => exact .int i
  | str x => exact .str x
  | lst h => exact .lst h
  | tup h => exact .tup h
  | dic h => exact .dic h
theorem TyF.split {H : Hp} {v : V} {n : String} (h : TyF H v n) : TyN H v n ∨ (n = "tuple" ∧ ∃ a xs, v = .ref a ∧ TF H a xs) := by
  cases h with
  | non => exact .inl .non
  | bl b => exact .inl (.bl b)
  | int i => exact .inl (.int i)
  | str x => exact .inl (.str x)
  | lst h => exact .inl (.lst h)
  | tup h => exact .inl (.tup h)
  | dic h => exact .inl (.dic h)
  | tf h => exact .inr ⟨rfl, _, _, rfl, h⟩
theorem TyF.x {K : PySem.W.Frag} {H : Hp} {v : V} {n : String} (h : TyF H v n) : TyX K H v (.type n) := by
  rcases h.split with h | ⟨rfl, a, xs, rfl, o, ht, _⟩
  · exact h.x
  · exact .fTuple ht
theorem TyF.isi {K : PySem.W.Frag} {H : Hp} {v : V} {n : String} (h : TyF H v n) {c : String} (hc : c = "int" ∨ c = "bool" ∨ c = "tuple" ∨ c = "list") : PySem.W.kitOne K (.type n) (.type c) = some (isiB n c) := by
  rcases hc with rfl | rfl | rfl | rfl <;> cases h <;> exact kit_ty (by decide +kernel)
theorem TyF.ke {H H' : Hp} {v : V} {n : String} (h : TyF H v n) (k : Ke H H') : TyF H' v n := by
  rcases h.split with h | ⟨rfl, a, xs, rfl, ht⟩
  · exact (h.ke k).f
  · exact .tf (ht.ke k)
theorem TyF.put {H : Hp} {p : Addr} {xs ys : List V} {v : V} {n : String} (h : TyF H v n) (k : H p = some (.lst xs)) : TyF (upd H p (.lst ys)) v n := by
  rcases h.split with h | ⟨rfl, a, zs, rfl, ht⟩
  · exact (h.put k).f
  · exact .tf (ht.put k)
theorem TyF.dk {H H' : Hp} {p : Addr} {v : V} {n : String} (h : TyF H v n) (k : Dk p H H') (d : Deck H p) : TyF H' v n := by
  rcases h.split with h | ⟨rfl, a, zs, rfl, ht⟩
  · exact (h.dk k d).f
  · exact .tf (ht.dk k d)
inductive ThG (K : PySem.W.Frag) (H : Hp) : V → Option (List V) → Prop where
  | no {v : V} {nm : String} (h : TyF H v nm) (hn : nm ≠ "tuple") : ThG K H v none
  | yes {a : Addr} {xs : List V} (h : SqT K H a xs) (ht : TyX K H (.ref a) (.type "tuple")) (hx : ∀ x ∈ xs, ∃ n, TyF H x n) : ThG K H (.ref a) (some xs)
theorem Tpl.g {K : PySem.W.Frag} {H : Hp} {v : V} {o : Option (List V)} (h : Tpl H v o) : ThG K H v o := by
  cases h with
  | no h hn => exact .no h.f hn
  | yes h hx => exact .yes (sqT_of h) (TyF.x (.tup h)) fun x hm => (hx x hm).imp fun _ z => z.f
end FF
namespace FF
open PySem PySem.Spec PyProof.Rows L2
variable [LT]
/-! ### hung from a told root -/
end FF
namespace FF
open PySem PySem.Spec PyProof.Rows L2
variable [LT]
/-! ### points that one comes to along ways, and ties turned -/
section
variable {X : Cx} {K : PySem.W.Frag}
end
/-! ### turned -/
/-! ### as few outs as can be -/
theorem LoV.ke {H H' : Hp} {x : V} {o : Option (List Int)} (h : LoV H x o) (k : Ke H H') : LoV H' x o := h.mono fun _ _ z => k.tup z
theorem TF.ty {K : PySem.W.Frag} {H : Hp} {a : Addr} {xs : List V} (h : TF H a xs) : TyX K H (.ref a) (.type "tuple") := by
  obtain ⟨o, e, _⟩ := h
  exact .fTuple e
end FF
namespace FF
open PySem PySem.Spec PyProof.Rows L2
variable [LT]
/-! ### layers split into forests -/
section
variable {n d : Int} {ts : List (Int × Int)} {ls : List Int}
end
section
variable {n : Int} {ts : List (Int × Int)} {ls : List Int}
end
end FF
namespace FF
open PySem PySem.Spec PyProof.Rows L2
variable [LT]
/-! ### two points tied many times -/
end FF
namespace FF
open PySem PySem.Spec PyProof.Rows L2
variable [LT]
/-! ### a list cut where a truth tells the place -/
section
variable {prog : Program} {w : World} {A : Around} {E : Value → Shared → Prop} {s : Shared}
end
section
variable {prog : Program} {w : World} {A : Around} {E : Value → Shared → Prop} {s : Shared}
end
section
variable {X : Cx} {K : PySem.W.Frag} {e lo : Expr} {te tl : TE} {pos p2 : Pos}
end
end FF
namespace FF
open PySem PySem.Spec PyProof.Rows L2
variable [LT]
/-! ### a ring's layer split -/
end FF
namespace FF
open PySem PySem.Spec PyProof.Rows L2
variable [LT]
/-! ### the set of a tuple of ties -/
section
variable {P : Program} {w : World} {A : Around} {E : Value → Shared → Prop} {s : Shared}
end
section
variable {X : Cx}
end
end FF
namespace FF
open PySem PySem.Spec PyProof.Rows L2
variable [LT]
/-! ### the least outs beside the least forests -/
end FF
namespace FF
open PySem PySem.Spec PyProof.Rows L2
variable [LT]
/-! ### rooms: pairs of points that a lot holds, and rows for the others -/
end FF
namespace FF
open PySem PySem.Spec PyProof.Rows L2
variable [LT]
/-! ### what a lot that holds a pair, or a row for it, tells of the web with that tie -/
end FF
namespace FF
open PySem PySem.Spec PyProof.Rows L2
variable [LT]
/-! ### what rooms_of tells -/
end FF
namespace FF
open PySem PySem.Spec PyProof.Rows L2
variable [LT]
/-! ### rows picked out of what rooms_of tells -/
end FF
namespace FF
open PySem PySem.Spec PyProof.Rows L2
variable [LT]
/-! ### (x,) * k known to the object; t.count(None) -/
section
variable {X : Cx}
end
end FF
namespace FF
open PySem PySem.Spec PyProof.Rows L2
variable [LT]
/-! ### lots within lots -/
theorem eqv_itups (as bs : List Int) : PyData.eqv (.tuple (as.map PyData.int)) (.tuple (bs.map PyData.int)) = decide (as = bs) := by
  rw [PyData.eqv]
  exact eqvAll_ints as bs
end FF
namespace FF
open PySem PySem.Spec PyProof.Rows L2
variable [LT]
/-! ### the sorted list of all pairs -/
end FF
namespace FF
open PySem PySem.Spec PyProof.Rows L2
variable [LT]
/-! ### sorted of a list of tuples of ints, any length -/
/-! ### the outs of all ways -/
end FF
namespace FF
open PySem PySem.Spec PyProof.Rows L2
variable [LT]
/-! ### methods of the text's own classes -/
structure DefAtM (K : PySem.W.Frag) (C : Addr) (m qual : Str) (st : Stmt) (ps : List Str) (f : Addr) (fd : FuncData) : Prop where
  F : FunD K m qual (defArgs st) (defBody st) (defScope st) [] [] f fd
  b : Binds K fd ps []
  me : Meth K C m f
structure DefAtI (K : PySem.W.Frag) (C : Addr) (qual : Str) (st : Stmt) (ps : List Str) (f : Addr) (fd : FuncData) : Prop where
  F : FunD K "__init__" qual (defArgs st) (defBody st) (defScope st) [] [] f fd
  b : Binds K fd ps []
  mak : Mk K C f
section
variable {P : Program} {w : World} {K : PySem.W.Frag} {mg : Str → Option Value} {base : Heap} {m qual : Str} {st : Stmt} {f C : Addr} {fd : FuncData} {N ps : List Str} {k : Nat} {sp : Sp}
theorem FunD.okN (F : FunD K m qual (defArgs st) (defBody st) (defScope st) [] [] f fd) (S : FnScope N ps (defScope st)) (len : ∀ vs H Q E, sp vs H Q E → vs.length = ps.length)
    (hbody : ∀ (A : Around) (outer : List Env) (s : Shared) (H : Hp) (vs : List V) (Q : VK) (E : XK), Room k (A.deeper (envOfC qual (defScope st) s.heap.objs.size f fd.code)) → sp vs H Q E →
      ∃ t, PSs (cxOf CX0 P w K mg base N qual (defScope st) f fd.code A outer s H E).nox (defBody st) t ∧ t { nx := fun _ H' => Q .non H', rt := Q } (start N vs) H) : FnOk P w K mg base CX0 (k + 1) f fd ps sp := by
  obtain ⟨oc, od, dV, kV, doc, pm, an, cdv, ct, osl, rfl, lk, hcd, _, _⟩ := F.ex
  exact fn_of lk hcd S len fun A outer s H vs Q E hr hsp => (hbody A outer s H vs Q E hr hsp).elim fun t z => ⟨t, z.1.nox, z.2⟩
theorem FunD.okX' {CX : CXT} (F : FunD K m qual (defArgs st) (defBody st) (defScope st) [] [] f fd) (S : FnScope N ps (defScope st)) (len : ∀ vs H Q E, sp vs H Q E → vs.length = ps.length)
    (hbody : ∀ (A : Around) (outer : List Env) (s : Shared) (H : Hp) (vs : List V) (Q : VK) (E : XK), Room k (A.deeper (envOfC qual (defScope st) s.heap.objs.size f fd.code)) → sp vs H Q E →
      ∃ t, PSs (cxOf CX P w K mg base N qual (defScope st) f fd.code A outer s H E) (defBody st) t ∧ t { nx := fun _ H' => Q .non H', rt := Q } (start N vs) H) : FnOk P w K mg base CX (k + 1) f fd ps sp := by
  obtain ⟨oc, od, dV, kV, doc, pm, an, cdv, ct, osl, rfl, lk, hcd, _, _⟩ := F.ex
  exact fn_of lk hcd S len fun A outer s H vs Q E hr hsp => hbody A outer s H vs Q E hr hsp
theorem DefAtM.ok (D : DefAtM K C m qual st ps f fd) (S : FnScope N ps (defScope st)) (len : ∀ vs H Q E, sp vs H Q E → vs.length = ps.length)
    (hbody : ∀ (A : Around) (outer : List Env) (s : Shared) (H : Hp) (vs : List V) (Q : VK) (E : XK), Room k (A.deeper (envOfC qual (defScope st) s.heap.objs.size f fd.code)) → sp vs H Q E →
      ∃ t, PSs (cxOf CX0 P w K mg base N qual (defScope st) f fd.code A outer s H E).nox (defBody st) t ∧ t { nx := fun _ H' => Q .non H', rt := Q } (start N vs) H) : FnOk P w K mg base CX0 (k + 1) f fd ps sp := FunD.okN D.F S len hbody
theorem DefAtM.okE {CX : CXT} (D : DefAtM K C m qual st ps f fd) (S : FnScope N ps (defScope st)) (len : ∀ vs H Q E, sp vs H Q E → vs.length = ps.length)
    (hbody : ∀ (A : Around) (outer : List Env) (s : Shared) (H : Hp) (vs : List V) (Q : VK) (E : XK), Room k (A.deeper (envOfC qual (defScope st) s.heap.objs.size f fd.code)) → sp vs H Q E →
      ∃ t, PSs (cxOf CX P w K mg base N qual (defScope st) f fd.code A outer s H E) (defBody st) t ∧ t { nx := fun _ H' => Q .non H', rt := Q } (start N vs) H) : FnOk P w K mg base CX (k + 1) f fd ps sp := FunD.okX' D.F S len hbody
theorem DefAtI.ok (D : DefAtI K C qual st ps f fd) (S : FnScope N ps (defScope st)) (len : ∀ vs H Q E, sp vs H Q E → vs.length = ps.length)
    (hbody : ∀ (A : Around) (outer : List Env) (s : Shared) (H : Hp) (vs : List V) (Q : VK) (E : XK), Room k (A.deeper (envOfC qual (defScope st) s.heap.objs.size f fd.code)) → sp vs H Q E →
      ∃ t, PSs (cxOf CX0 P w K mg base N qual (defScope st) f fd.code A outer s H E).nox (defBody st) t ∧ t { nx := fun _ H' => Q .non H', rt := Q } (start N vs) H) : FnOk P w K mg base CX0 (k + 1) f fd ps sp := FunD.okN D.F S len hbody
end
/-! a method called within a try -/
section
variable {X : Cx} {CX : CXT} {k : Nat} {f C : Addr} {fd : FuncData} {ps : List Str} {sp : Sp} {E : L2.St → XK} {m : Str} {pos apos : Pos} {e o : Expr} {es : List Expr} {ta : TE} {t : TA}
end
end FF
namespace FF
open PySem PySem.Spec PyProof.Rows L2
variable [LT]
/-! ### a desk's fields -/
theorem lkH {f : Str} {v : V} {r : List (Str × V)} : ((f, v) :: r).lookup f = some v := by rw [List.lookup_cons, beq_self_eq_true]
theorem lkM {f g : Str} {v : V} {r : List (Str × V)} (h : ¬ g = f) : ((f, v) :: r).lookup g = r.lookup g := by rw [List.lookup_cons, beq_eq_false_iff_ne.mpr h]
theorem pfM {f g : Str} {v x : V} {r : List (Str × V)} (h : ¬ g = f) : putF f v ((g, x) :: r) = (g, x) :: putF f v r := by
  show (if g = f then _ else _) = _
  rw [if_neg h]
section
variable {a b c d e v : V}
end
theorem Kx.web {S : Addr → Prop} {H H' : Hp} {v : V} {n : Int} {ts : List (Int × Int)} (k : Kx S H H') (hs : ∀ b xs, H b = some (.tup xs) → ¬ S b) (W : Web H v n ts) : Web H' v n ts := by
  obtain ⟨tw, wu, rs, rfl, h1, h2, h3⟩ := W
  exact ⟨tw, wu, rs, rfl, k.tup h1 (hs _ _ h1), k.tup h2 (hs _ _ h2), h3.mono fun q xs z => k.tup z (hs _ _ z)⟩
/-! ### what a desk is told, and what it tells -/
/-! ### one forest fewer -/
end FF
namespace FF
open PySem PySem.Spec PyProof.Rows L2
variable [LT]
/-! ### walks within an except suite -/
section
open PySem PySem.Calls HotX
variable {pr : Program} {wo : World} {A : Around} {E : Value → Shared → Prop} {s : Shared}
end
section
open PySem PySem.Calls HotX L2H
end
section
open PySem PySem.Calls HotX L2H
end
section
open HotX L2H
end
section
open HotX L2H
end
end FF
namespace FF
open PySem PySem.Spec PyProof.Rows L2
variable [LT]
/-! ### min of a tuple of ints -/
section
variable {X : Cx} {K : PySem.W.Frag}
end
end FF
namespace FF
open PySem PySem.Spec PyProof.Rows L2
variable [LT]
/-! ### desks: what stays, and what is told as data -/
section
variable {K : PySem.W.Frag} {H H' : Hp} {x : Addr} {n : Int} {ts : List (Int × Int)} {k : Int} {ws : List V} {rv : V} {m : Int}
end
section
variable {K : PySem.W.Frag} {H H' : Hp}
mutual
theorem Dp.mono (hl : ∀ a xs, SqL K H a xs → SqL K H' a xs) (ht : ∀ a xs, SqT K H a xs → SqT K H' a xs) : ∀ (d : PyData) (v : V), Dp K H v d → Dp K H' v d
  | .none, _, h => by
    cases h
    exact .non
  | .bool b, _, h => by
    cases h
    exact .bl b
  | .int i, _, h => by
    cases h
    exact .int i
  | .str x, _, h => by
    cases h
    exact .str x
  | .list ds, _, h => by
    cases h with
    | lst hs ha => exact .lst (hl _ _ hs) (DpAll.mono hl ht ds _ ha)
  | .tuple ds, _, h => by
    cases h with
    | tup hs ha => exact .tup (ht _ _ hs) (DpAll.mono hl ht ds _ ha)
  | .dict _, _, h => by cases h
theorem DpAll.mono (hl : ∀ a xs, SqL K H a xs → SqL K H' a xs) (ht : ∀ a xs, SqT K H a xs → SqT K H' a xs) : ∀ (ds : List PyData) (vs : List V), DpAll K H vs ds → DpAll K H' vs ds
  | [], _, h => by
    cases h
    exact .nil
  | d :: ds, _, h => by
    cases h with
    | cons h1 h2 => exact .cons (Dp.mono hl ht d _ h1) (DpAll.mono hl ht ds _ h2)
end
end
end FF
namespace FF
open PySem PySem.Spec PyProof.Rows L2
variable [LT]
/-! ### what a desk is due to tell, by the fewest forests -/
end FF
namespace FF
open PySem PySem.Spec PyProof.Rows L2
variable [LT]
/-! ### desks: webs, and what stands of a desk -/
end FF
namespace FF
open PySem PySem.Spec PyProof.Rows L2
variable [LT]
/-! ### is not of any thing and a bool -/
end FF
namespace FF
open PySem PySem.Spec PyProof.Rows L2
variable [LT]
/-! ### a desk's deeds, each with one outcome -/
end FF
namespace FF
open PySem PySem.Spec PyProof.Rows L2
variable [LT]
/-! ### a, b, .. = a list of that length -/
end FF
namespace FF
open PySem PySem.Spec PyProof.Rows L2
variable [LT]
/-! ### what is told stays -/
structure Kp (H H' : Hp) : Prop where
  tup : ∀ q xs, H q = some (.tup xs) → H' q = some (.tup xs)
  str : ∀ l s r, H l = some (.lst (.str s :: r)) → H' l = some (.lst (.str s :: r))
theorem Kp.trans {H H' H2 : Hp} (a : Kp H H') (b : Kp H' H2) : Kp H H2 := ⟨fun q xs z => b.tup q xs (a.tup q xs z), fun l s r z => b.str l s r (a.str l s r z)⟩
theorem Ke.kp {H H' : Hp} (k : Ke H H') : Kp H H' := ⟨fun _ _ z => Ke.tup k z, fun _ _ _ z => Ke.lst k z⟩
theorem Kp.put {H : Hp} {p : Addr} {hs hs' : List V} (h : H p = some (.lst hs)) (hn : ∀ s r, hs ≠ .str s :: r) : Kp H (upd H p (.lst hs')) := ⟨fun q xs z => by
  rw [upd_ne (ne_of z h fun y => nomatch y)]
  exact z, fun l s r z => by
  rw [upd_ne fun e => ?_]
  · exact z
  · rw [e, h] at z
    injection z with z
    injection z with z
    exact hn s r z⟩
theorem Dk.kp {p : Addr} {H H' : Hp} (k : Dk p H H') (d : Deck H p) : Kp H H' := ⟨fun q xs z => k.tup d z, fun l s r z => k.lst z fun e => by
  obtain ⟨ds, h, _⟩ := d
  rw [e, h] at z
  injection z with z
  injection z with z
  cases ds with
  | nil => cases z
  | cons a b => cases z⟩
end FF
namespace FF
open PySem PySem.Spec PyProof.Rows L2
variable [LT]
/-! ### sorted(tuple of pairs) -/
section
variable {prog : Program} {w : World} {A : Around} {E : Value → Shared → Prop} {s : Shared}
end
/-! ### collections in which no lot is full -/
section
variable {K : PySem.W.Frag} {H H' : Hp} {x : Addr} {n : Int} {ts : List (Int × Int)} {k : Int} {ws : List V} {rv : V} {m : Int} {l : Addr}
end
/-- what came new may change -/
theorem Kx.past {S : Addr → Prop} {H H1 H2 : Hp} {x : Addr} (k : Kx S H H1) (k2 : Kx (fun b => b = x) H1 H2) (hx : H x = none) : Kx S H H2 := ⟨fun b o e n q => k2.at_ b o (k.at_ b o e n q) n (fun z => (by rw [z, hx] at e; cases e)), fun b t => k2.tab b (k.tab b t), fun b e => k.dom b (k2.dom b e), fun b ps l n e => k2.lam b ps l (fun z => (by rw [z, hx] at e; cases e)) (k.lam b ps l n e)⟩
theorem erase_permP {α : Type} {xs : List α} {k : Nat} {y : α} (h : xs[k]? = some y) : (y :: xs.eraseIdx k).Perm xs := by
  induction xs generalizing k with
  | nil => simp at h
  | cons x xs ih =>
    cases k with
    | zero => cases h; exact .refl _
    | succ k =>
      have h : xs[k]? = some y := h
      rw [List.eraseIdx_cons_succ]
      exact (List.Perm.swap _ _ _).trans ((ih h).cons x)
end FF
namespace FF
open PySem PySem.Spec PyProof.Rows L2
variable [LT]
/-! ### the search from several ties at once -/
section
variable {ts : List (Int × Int)} {ws : List V} {k : Int} {Zs : List Int} {fl : List (Int × Option (Int × Int))} {lv : Nat → Nat} {a : Nat}
end
section
variable {H : Hp} {n : Int} {ts : List (Int × Int)} {ws : List V} {k : Int} {Zs : List Int} {d nb hg wt : Addr} {bl : List (Int × Addr)} {G G' : Hp} {pl pl' : List (Int × V)} {fl fl' : List (Int × Option (Int × Int))} {lv lv' : Nat → Nat} {a a' : Nat} {gl gl' : List (Int × Addr)}
end
end FF
namespace FF
open PySem PySem.Spec PyProof.Rows L2
variable [LT]
/-! ### what lies within a tight lot stays there -/
theorem Fo.bridge {ts : List (Int × Int)} {ms : List Int} (h : Fo ts ms) {m : Int} (hm : m ∈ ms) : ¬ jn ts (FF.but m ms) (tk ts m).1 (tk ts m).2 := by
  have hp : (FF.but m ms ++ [m]).Perm ms := (List.perm_ext_iff_of_nodup (by
    rw [List.nodup_append]
    exact ⟨h.nd.filter _, by simp, fun a ha b hb => by
      rw [List.mem_singleton.mp hb]
      have := (List.mem_filter.mp ha).2
      simpa using this⟩) h.nd).mpr fun x => by
    rw [List.mem_append, List.mem_singleton]
    unfold FF.but
    rw [List.mem_filter]
    constructor
    · rintro (z | rfl)
      · exact z.1
      · exact hm
    · intro z
      by_cases c : x = m
      · exact .inr c
      · exact .inl ⟨z, by rw [decide_eq_false c]; rfl⟩
  have h1 : ringlessF (fun x => x) (pick ts (FF.but m ms ++ [m])) = true := (ringlessF_perm (show (pick ts (FF.but m ms ++ [m])).Perm (pick ts ms) from hp.map _) _).trans h.rl
  rw [pick_append] at h1
  have h2 : ringlessF (fun x => x) (pick ts (FF.but m ms)) = true := (h.but m).rl
  rw [show pick ts [m] = [tk ts m] from rfl, ringlessF_more h2] at h1
  intro z
  have z : foldR (fun x => x) (pick ts (FF.but m ms)) (tk ts m).1 = foldR (fun x => x) (pick ts (FF.but m ms)) (tk ts m).2 := z
  rw [decide_eq_true z] at h1
  cases h1
section
variable {ts : List (Int × Int)} {n k : Int} {ws : List V} {ls : List Int}
abbrev inL (ts : List (Int × Int)) (ls : List Int) (m : Int) : Prop := (tk ts m).1 ∈ ls ∧ (tk ts m).2 ∈ ls
theorem TightL.joined (h : TightL ts n k ws ls) (hL : LayK ts k ws) {f : Int} (f0 : 0 ≤ f) (f1 : f < k) {a b : Int} (ha : a ∈ ls) (hb : b ∈ ls) : jn ts ((numsFrom f 0 ws).filter fun m => decide ((tk ts m).1 ∈ ls) && decide ((tk ts m).2 ∈ ls)) a b := by
  have e : pick ts ((numsFrom f 0 ws).filter fun m => decide ((tk ts m).1 ∈ ls) && decide ((tk ts m).2 ∈ ls)) = (layerOf ts ws f).filter fun t => decide (t.1 ∈ ls) && decide (t.2 ∈ ls) := by
    rw [← show pick ts (numsFrom f 0 ws) = layerOf ts ws f from pick_nums f [] ts ws hL.len.symm]
    unfold pick
    rw [List.filter_map]
    rfl
  show foldR (fun x => x) (pick ts _) a = foldR (fun x => x) (pick ts _) b
  rw [e]
  exact tight_joined (hL.tree f) h.lot (h.tight f f0 f1) ha hb
theorem TightL.ring (h : TightL ts n k ws ls) (hL : LayK ts k ws) {f : Int} (f0 : 0 ≤ f) (f1 : f < k) {s x : Int} (hs : inL ts ls s) (ho : OnR ts (numsFrom f 0 ws) s x) : inL ts ls x := by
  by_cases c : inL ts ls x
  · exact c
  · refine (ho.2 (jn_sub (fun m hm => ?_) (h.joined hL f0 f1 hs.1 hs.2))).elim
    obtain ⟨m1, m2⟩ := List.mem_filter.mp hm
    rw [Bool.and_eq_true, decide_eq_true_eq, decide_eq_true_eq] at m2
    unfold but
    refine List.mem_filter.mpr ⟨m1, ?_⟩
    rw [decide_eq_false (p := m = x) fun z => c (by rw [← z]; exact m2)]
    rfl
theorem TightL.rch (h : TightL ts n k ws ls) (hL : LayK ts k ws) {t x : Int} (ht : inL ts ls t) (hr : Rch ts ws k t x) : inL ts ls x := by
  induction hr with
  | base => exact ht
  | step _ f0 f1 _ _ ho ih => exact h.ring hL f0 f1 ih ho
theorem TightL.no_row (h : TightL ts n k ws ls) (hL : LayK ts k ws) : ∀ {es : List (Int × Int)} {e : Int × Int} {r : List (Int × Int)}, es = e :: r → PRow ts ws k es → inL ts ls e.1 → False
  | [], _, _, h0, _, _ => nomatch h0
  | [e], _, _, h0, hp, hi => by
    cases h0
    obtain ⟨_, f0, f1⟩ := hp.bd e (List.mem_singleton.mpr rfl)
    have hj : joinB ts ws e = true := (jn_join hL.len).mpr (jn_sub (fun m hm => (List.mem_filter.mp hm).1) (h.joined hL f0 f1 hi.1 hi.2))
    have hq : (!joinB ts ws e) = true := hp.push
    rw [hj] at hq
    cases hq
  | e :: e' :: r, _, _, h0, hp, hi => by
    cases h0
    obtain ⟨_, f0, f1⟩ := hp.bd e List.mem_cons_self
    have ho := (pushB_parts.mp hp.push).2.1
    exact h.no_row hL rfl hp.tail (h.ring hL f0 f1 hi ho)
theorem TightL.free (h : TightL ts n k ws ls) (hL : LayK ts k ws) {t : Int} (ht : inL ts ls t) : ¬ ∃ d r, PRow ts ws k (d :: r) ∧ d.1 = t := fun ⟨d, r, hp, e⟩ => h.no_row hL rfl hp (e ▸ ht)
end
/-! ### what is reached from a tie that no row lays -/
theorem Closed.tight {ts : List (Int × Int)} {n k : Int} {ws : List V} {R ls : List Int} (h : Closed ts ws k R) (hL : LayK ts k ws) (hE : EndsOf ts R ls) (hl : Lot n ls) (hne : R ≠ []) : TightL ts n k ws ls := ⟨hl, fun f f0 f1 => h.tree hL.len hE hne hL.tree f0 f1⟩
/-! ### the noted lots are the least -/
theorem filter_imp {α : Type} {p q : α → Bool} (h : ∀ x, p x = true → q x = true) (l : List α) : l.filter p = (l.filter q).filter p := by
  rw [List.filter_filter]
  refine List.filter_congr fun x _ => ?_
  cases e : p x with
  | false => rfl
  | true => rw [h x e]; rfl
/-- ties within a tight lot are the same when more is laid -/
theorem TightL.back {ts : List (Int × Int)} {n k : Int} {ws ws' : List V} {ls ls' : List Int} (h : TightL ts n k ws ls) (hk : 0 ≤ k) (hL : LayK ts k ws) (hL' : LayK ts k ws') (hs : ∀ i : Nat, ws'[i]? = some .non → ws[i]? = some .non) (h' : TightL ts n k ws' ls') (sub : ∀ x ∈ ls', x ∈ ls) : TightL ts n k ws ls' := by
  refine ⟨h'.lot, fun f f0 f1 => ?_⟩
  have hst := h.stay hk hL hL' hs
  have e1 := (tight_iff hL hk h.lot.nd h.lot.ne).mpr fun f f0 f1 => by have := h.tight f f0 f1; omega
  have e2 := (tight_iff hL' hk h.lot.nd h.lot.ne).mpr fun f f0 f1 => by have := hst.tight f f0 f1; omega
  have sl := (laidT_sub (ts := ts) (hL'.len.trans hL.len.symm) hs).filter fun t : Int × Int => decide (t.1 ∈ ls) && decide (t.2 ∈ ls)
  have ee : (laidT ts ws).filter (fun t : Int × Int => decide (t.1 ∈ ls) && decide (t.2 ∈ ls)) = (laidT ts ws').filter fun t : Int × Int => decide (t.1 ∈ ls) && decide (t.2 ∈ ls) := sl.eq_of_length (by
    unfold inside at e1 e2
    omega)
  have hp : ∀ t : Int × Int, (decide (t.1 ∈ ls') && decide (t.2 ∈ ls')) = true → (decide (t.1 ∈ ls) && decide (t.2 ∈ ls)) = true := fun t z => by
    rw [Bool.and_eq_true, decide_eq_true_eq, decide_eq_true_eq] at z ⊢
    exact ⟨sub _ z.1, sub _ z.2⟩
  have e3 : inside ls' (laidT ts ws) = inside ls' (laidT ts ws') := by
    unfold inside
    rw [filter_imp hp (laidT ts ws), filter_imp hp (laidT ts ws'), ee]
  have e4 := (tight_iff hL' hk h'.lot.nd h'.lot.ne).mpr fun f f0 f1 => by have := h'.tight f f0 f1; omega
  rw [← e3] at e4
  have := (tight_iff hL hk h'.lot.nd h'.lot.ne).mp e4 f f0 f1
  omega
end FF
namespace FF
open PySem PySem.Spec PyProof.Rows L2
variable [LT]
/-! ### which ties some fullest laying leaves out -/
section
variable {ts : List (Int × Int)} {n k : Int} {ws : List V} {Zs : List Int} {fl : List (Int × Option (Int × Int))} {lv : Nat → Nat} {a : Nat}
/-! ### the row that leaves a tie out -/
end
end FF
namespace FF
open PySem PySem.Spec PyProof.Rows L2
variable [LT]
/-! ### what needed_ties tells -/
theorem Pth.key {fl : FlT} {x : Int} {es : List (Int × Int)} (h : Pth fl x es) : x ∈ fl.map Prod.fst := by
  cases h with
  | root h => exact List.mem_map.mpr ⟨_, h, rfl⟩
  | step h _ => exact List.mem_map.mpr ⟨_, h, rfl⟩
end FF
namespace FF
open PySem PySem.Spec PyProof.Rows L2
variable [LT]
/-! ### all layings of a small web -/
/-- a laying of one tie more is a laying and an entry -/
theorem LayK.init {ts : List (Int × Int)} {k : Int} {ws : List V} {i : Nat} (hi : i < ts.length) (h : LayK (ts.take (i + 1)) k ws) : ∃ us x, ws = us ++ [x] ∧ LayK (ts.take i) k us ∧ (x = .non ∨ ∃ f, x = V.int f ∧ 0 ≤ f ∧ f < k) := by
  have hl := h.len
  rw [List.length_take] at hl
  have hne : ws ≠ [] := fun z => by rw [z] at hl; have : 0 = min (i + 1) ts.length := hl; omega
  obtain ⟨us, x, rfl⟩ : ∃ us x, ws = us ++ [x] := ⟨_, _, (List.dropLast_concat_getLast hne).symm⟩
  rw [List.length_append, List.length_singleton] at hl
  refine ⟨us, x, rfl, ?_, h.each x (List.mem_append_right _ List.mem_cons_self)⟩
  have := h.erase (g := i) (by rw [List.length_take]; omega)
  rw [show (us ++ [x]).eraseIdx i = us by rw [List.eraseIdx_append_of_length_le (by omega), show i - us.length = 0 by omega]; exact List.append_nil _, show (ts.take (i + 1)).eraseIdx i = ts.take i by rw [List.take_add_one, List.eraseIdx_append_of_length_le (by rw [List.length_take]; omega), List.length_take, show i - min i ts.length = 0 by omega, List.getElem?_eq_getElem hi]; exact List.append_nil _] at this
  exact this
end FF
namespace FF
open PySem PySem.Spec PyProof.Rows L2
variable [LT]
/-! ### what needed_ties tells, as data -/
end FF
namespace FF
open PySem PySem.Spec PyProof.Rows L2
variable [LT]
/-! ### a search that notes whence each came -/
section
variable {H H' : Hp} {kl : List (Int × V)} {pl : List (Int × Option (Int × Int))}
end
section
variable {n : Int} {ts : List (Int × Int)} {ms : List Int} {a : Int} {pl : List (Int × Option (Int × Int))}
end
end FF
namespace FF
open PySem PySem.Spec PyProof.Rows L2
variable [LT]
/-! ### tuple(reversed(xs)) -/
section
variable {prog : Program} {w : World} {A : Around} {E : Value → Shared → Prop} {s : Shared}
end
section
variable {X : Cx}
end
end FF
namespace FF
open PySem PySem.Spec PyProof.Rows L2
variable [LT]
/-! ### rows that lay a tie, as the program looks at them -/
end FF
namespace FF
open PySem PySem.Spec PyProof.Rows L2
variable [LT]
/-! ### rooms of all tight lots -/
section
variable {ts : List (Int × Int)} {n k : Int} {ws : List V} {ps : List (Int × Int)} {lots lots' : List (List Int)} {rows rows' : List ((Int × Int) × List (Int × Int))}
end
/-! ### rooms as data -/
end FF
namespace FF
open PySem PySem.Spec PyProof.Rows L2
variable [LT]
/-! ### layings that are known to the object -/
theorem TF.kx {S : Addr → Prop} {H H' : Hp} {a : Addr} {xs : List V} (h : TF H a xs) (k : Kx S H H') (n : ¬ S a) : TF H' a xs := by
  obtain ⟨o, e, d⟩ := h
  exact ⟨o, k.at_ a _ e (fun _ z => nomatch z) n, d⟩
theorem TF.ne {H : Hp} {a b : Addr} {xs : List V} {u : HO} (h : TF H a xs) (e : H b = some u) (n : ∀ o ys, u ≠ .frz o (.tup ys)) : a ≠ b := fun z => by
  obtain ⟨o, e1, _⟩ := h
  rw [z, e] at e1
  exact n _ _ (Option.some.inj e1)
end FF
namespace FF
open PySem PySem.Spec PyProof.Rows L2
variable [LT]
/-! ### how many ties one forest more lays -/
end FF
namespace FF
open PySem PySem.Spec PyProof.Rows L2
variable [LT]
/-! ### things looked into to any depth -/
/-! ### rooms of any thing -/
end FF
namespace FF
open PySem PySem.Spec PyProof.Rows L2
variable [LT]
/-! ### papers of rooms, of any thing -/
end FF
namespace FF
open PySem PySem.Spec PyProof.Rows L2
variable [LT]
/-! ### rows of things looked into five deep -/
end FF
namespace FF
open PySem PySem.Spec PyProof.Rows L2
variable [LT]
/-! ### the answer about a paper of rooms stays -/
end FF
namespace FF
open PySem PySem.Spec PyProof.Rows L2
variable [LT]
/-! ### tables of defs with a lambda -/
def LTabs (lt : List (Addr × Str)) (H : Hp) : Prop := ∀ p ∈ lt, LamX.TabS H p.1 p.2
/-- what is told of the list of such tables -/
structure LtOk (lt : List (Addr × Str)) : Prop where
  lam : ∀ p ∈ lt, LT.lam p.1 = true
  one : ∀ p ∈ lt, ∀ q ∈ lt, p.1 = q.1 → p.2 = q.2
theorem LTabs.kx {lt : List (Addr × Str)} (ok : LtOk lt) {S : Addr → Prop} {H H' : Hp} (h : LTabs lt H) (k : Kx S H H') (hS : ∀ b, S b → (∀ ps, H b ≠ some (.tbl ps)) ∧ ∀ c q, H b ≠ some (LamX.CodeO c q)) : LTabs lt H' := fun p hp => by
  obtain ⟨ps, e1, e2, e3⟩ := h p hp
  refine ⟨ps, k.lam _ ps (ok.lam p hp) (fun z => (hS _ z).1 ps e1) e1, e2, fun pos cv hc => ?_⟩
  obtain ⟨c, g1, g2⟩ := e3 pos cv hc
  exact ⟨c, g1, k.at_ c _ g2 LamX.codeO_ne fun z => (hS _ z).2 c _ g2⟩
theorem LTabs.ke {lt : List (Addr × Str)} (ok : LtOk lt) {H H' : Hp} (h : LTabs lt H) (k : Ke H H') : LTabs lt H' := h.kx ok k fun _ z => z.elim
theorem LTabs.at_lst {lt : List (Addr × Str)} (ok : LtOk lt) {p : Addr} {xs : List V} {H H' : Hp} (h : LTabs lt H) (k : Kx (fun b => b = p) H H') (hp : H p = some (.lst xs)) : LTabs lt H' := h.kx ok k fun b z => by
  rw [z]
  exact ⟨fun ps e => (by rw [hp] at e; cases e), fun c q e => (by rw [hp] at e; unfold LamX.CodeO at e; cases e)⟩
theorem LTabs.dk {lt : List (Addr × Str)} (ok : LtOk lt) {p : Addr} {H H' : Hp} (h : LTabs lt H) (k : Dk p H H') (d : Deck H p) : LTabs lt H' := by
  obtain ⟨ds, e, _⟩ := d
  exact h.at_lst ok k.k e
/-- what the making of a lambda, or a call of a def that makes one, leaves as it was: all but tables of such -/
abbrev Kl (lt : List (Addr × Str)) := Kx fun b => ∃ p ∈ lt, p.1 = b
theorem Kl.not {lt : List (Addr × Str)} {H : Hp} (h : LTabs lt H) {b : Addr} {o : HO} (e : H b = some o) (n : ∀ ps, o ≠ .tbl ps) : ¬ ∃ p ∈ lt, p.1 = b := fun ⟨p, hp, z⟩ => by
  obtain ⟨ps, g, _⟩ := h p hp
  rw [z, e] at g
  exact n ps (Option.some.inj g)
theorem Kl.at' {lt : List (Addr × Str)} {H H' : Hp} (k : Kl lt H H') (h : LTabs lt H) {b : Addr} {o : HO} (e : H b = some o) (n : ∀ ps, o ≠ .tbl ps) : H' b = some o := k.at_ b o e n (Kl.not h e n)
theorem Kl.lst' {lt : List (Addr × Str)} {H H' : Hp} (k : Kl lt H H') (h : LTabs lt H) {q : Addr} {xs : List V} (e : H q = some (.lst xs)) : H' q = some (.lst xs) := k.at' h e fun _ z => nomatch z
theorem Kl.deck {lt : List (Addr × Str)} {H H' : Hp} {p : Addr} (k : Kl lt H H') (h : LTabs lt H) (d : Deck H p) : Deck H' p := by
  obtain ⟨ds, e, g⟩ := d
  exact ⟨ds, k.lst' h e, g⟩
theorem Ke.kl {lt : List (Addr × Str)} {H H' : Hp} (k : Ke H H') : Kl lt H H' := k.to
section
variable {X : Cx} {pins : List (Addr × Obj)} {σ : L2.St} {H : Hp} {s : Shared}
end
end FF
namespace FF
open PySem PySem.Spec PyProof.Rows L2
variable [LT]
/-! ### a lambda of one parameter: its names, its call -/
section
variable {X : Cx} {pins : List (Addr × Obj)} {σ : L2.St} {H : Hp} {s : Shared}
end
end FF
namespace FF
open PySem PySem.Spec PyProof.Rows L2
variable [LT]
/-! ### sorted(.., key=a lambda) -/
section
variable {prog : Program} {w : World} {A : Around} {E : Value → Shared → Prop}
end
section
variable {X : Cx} {pins : List (Addr × Obj)} {σ : L2.St} {H : Hp} {s : Shared}
end
end FF
namespace FF
open PySem PySem.Spec PyProof.Rows L2
variable [LT]
/-! ### sorted(.., key=a lambda): the rules -/
section
variable {X : Cx} {pins : List (Addr × Obj)} {σ : L2.St} {H : Hp} {s : Shared}
end
end FF
namespace FF
open PySem PySem.Spec PyProof.Rows L2
variable [LT]
/-! ### sorted(list, key=a lambda), sorted(range(..), key=a lambda) -/
section
variable {X : Cx} {lt : List (Addr × Str)} {c P : Addr} {N : List Str} {src : List Nat} {p : Str} {scope : Scope} {params : Arguments} {body e : Expr} {k : Nat} {te tb : TE} {p1 lpos kpos pos : Pos}
end
end FF
namespace FF
open PySem PySem.Spec PyProof.Rows L2
variable [LT]
/-! ### ties in the order of cheapness, laid one after the other -/
def prI (ps : List Int) (i : Nat) : Int := ps.getD i 0
/-- i is cheaper than j -/
def chB (ps : List Int) (i j : Nat) : Prop := prI ps i < prI ps j ∨ (prI ps i = prI ps j ∧ i < j)
instance (ps : List Int) (i j : Nat) : Decidable (chB ps i j) := by unfold chB; exact inferInstance
/-! the ties of numbers, those laid among them -/
def tsN (ts : List (Int × Int)) (l : List Nat) : List (Int × Int) := l.map fun i => ts.getD i (0, 0)
def ldN (ws : List V) (l : List Nat) : List Nat := l.filter fun i => !decide (ws.getD i .non = V.non)
theorem laidT_tsN : ∀ {ts : List (Int × Int)} {ws : List V}, ws.length = ts.length → laidT ts ws = tsN ts (ldN ws (List.range ts.length)) := by
  intro ts ws hl
  have h := pick_laid hl ts.length (Nat.le_refl _)
  rw [List.take_length, List.take_of_length_le (by omega)] at h
  rw [← h]
  unfold pick laidM tsN ldN upTo
  rw [Int.toNat_natCast, List.filter_map, List.map_map]
  rfl
theorem tsN_perm {ts : List (Int × Int)} {l m : List Nat} (h : l.Perm m) : (tsN ts l).Perm (tsN ts m) := h.map _
/-- no lot has more laid ties within than its forests hold -/
theorem LayK.most {ts : List (Int × Int)} {k : Int} {ws : List V} (hL : LayK ts k ws) (hk : 0 ≤ k) {ls : List Int} (hn : ls.Nodup) (hne : ls ≠ []) : (inside ls (laidT ts ws) : Int) ≤ k * ((ls.length : Int) - 1) := by
  have e := inside_laid ls hL.len hL.each
  rw [e]
  have hm := sum_most (s := (ls.length : Int) - 1) (g := fun f => (inside ls (layerOf ts ws f) : Int)) (l := upTo k) fun f _ => by
    have := inside_forest (hL.tree f) hn hne
    show (inside ls (layerOf ts ws f) : Int) ≤ _
    omega
  have hl : ((upTo k).length : Int) = k := by rw [upTo_length]; omega
  rw [hl] at hm
  exact hm.1
/-! the law's own: each tie, in the order, that can be laid with those taken ahead -/
end FF
namespace FF
open PySem PySem.Spec PyProof.Rows L2
variable [LT]
/-! ### (p, i) < (q, j), (p, i) > (q, j) -/
end FF
namespace FF
open PySem PySem.Spec PyProof.Rows L2
variable [LT]
/-! ### papers of cheapest ties, of any thing -/
end FF
namespace FF
open PySem PySem.Spec PyProof.Rows L2
variable [LT]
/-! ### no others that can be laid are more -/
theorem lay_tsN {ts : List (Int × Int)} {ws : List V} (h : ws.length = ts.length) (f : Int) : layerOf ts ws f = tsN ts ((List.range ts.length).filter fun i => decide (ws.getD i .non = V.int f)) := by
  unfold layerOf tsN
  have key : ∀ m, m ≤ ts.length → (((ts.take m).zip (ws.take m)).filter fun p => decide (p.2 = V.int f)).map Prod.fst = ((List.range m).filter fun i => decide (ws.getD i .non = V.int f)).map fun i => ts.getD i (0, 0) := by
    intro m
    induction m with
    | zero => exact fun _ => rfl
    | succ m ih =>
      intro hm
      have h1 : ts[m]? = some (ts.getD m (0, 0)) := by rw [List.getD_eq_getElem?_getD, List.getElem?_eq_getElem (by omega)]; rfl
      have h2 : ws[m]? = some (ws.getD m .non) := by rw [List.getD_eq_getElem?_getD, List.getElem?_eq_getElem (by omega)]; rfl
      rw [take_next h1, take_next h2, List.zip_append (by rw [List.length_take, List.length_take]; omega), List.filter_append, List.map_append, ih (by omega), List.range_succ, List.filter_append, List.map_append]
      congr 1
      show (List.filter _ [(ts.getD m (0, 0), ws.getD m .non)]).map Prod.fst = _
      rw [List.filter_cons, List.filter_cons]
      dsimp only
      split <;> rfl
  have := key ts.length (Nat.le_refl _)
  rw [List.take_length, List.take_of_length_le (by omega)] at this
  exact this
theorem getD_map_pre {α : Type} (pre : List Nat) (g : Nat → α) (d : α) (i : Nat) (hi : i < pre.length) : (pre.map g).getD i d = g (pre.getD i 0) := by
  rw [List.getD_eq_getElem?_getD, List.getElem?_map, List.getElem?_eq_getElem hi, List.getD_eq_getElem?_getD, List.getElem?_eq_getElem hi]
  rfl
theorem range_getD (pre : List Nat) : (List.range pre.length).map (fun i => pre.getD i 0) = pre := by
  refine List.ext_getElem? fun i => ?_
  rw [List.getElem?_map]
  by_cases h : i < pre.length
  · rw [List.getElem?_range h, List.getElem?_eq_getElem h]
    show some (pre.getD i 0) = _
    rw [List.getD_eq_getElem?_getD, List.getElem?_eq_getElem h]
    rfl
  · rw [List.getElem?_eq_none (by rw [List.length_range]; omega), List.getElem?_eq_none (by omega)]
    rfl
/-- the layer of picked ties -/
theorem lay_pre {ts : List (Int × Int)} {ws : List V} (pre : List Nat) (f : Int) : layerOf (tsN ts pre) (pre.map fun i => ws.getD i .non) f = tsN ts (pre.filter fun i => decide (ws.getD i .non = V.int f)) := by
  have hl : (pre.map fun i => ws.getD i .non).length = (tsN ts pre).length := by unfold tsN; rw [List.length_map, List.length_map]
  rw [lay_tsN hl]
  have e : (tsN ts pre).length = pre.length := by unfold tsN; rw [List.length_map]
  rw [e]
  conv => rhs; rw [← range_getD pre]
  unfold tsN
  rw [List.filter_map, List.map_map]
  have e1 : (List.range pre.length).filter (fun i => decide ((pre.map fun i => ws.getD i .non).getD i .non = V.int f)) = (List.range pre.length).filter ((fun i => decide (ws.getD i .non = V.int f)) ∘ fun i => pre.getD i 0) := List.filter_congr fun i hi => by
    rw [getD_map_pre pre _ _ i (List.mem_range.mp hi)]
    rfl
  rw [e1]
  refine List.map_congr_left fun i hi => ?_
  exact getD_map_pre pre (fun i => ts.getD i (0, 0)) _ i (List.mem_range.mp (List.mem_filter.mp hi).1)
theorem sub_of {l m : List Nat} (hl : l.Nodup) (hm : m.Nodup) (h : ∀ x ∈ l, x ∈ m) : ∃ l', l.Perm l' ∧ l'.Sublist m := by
  refine ⟨m.filter fun x => decide (x ∈ l), (List.perm_ext_iff_of_nodup hl (hm.filter _)).mpr fun x => ?_, List.filter_sublist⟩
  rw [List.mem_filter, decide_eq_true_eq]
  exact ⟨fun z => ⟨h x z, z⟩, fun z => z.2⟩
theorem LayK.pre {ts : List (Int × Int)} {k : Int} {ws : List V} (hL : LayK ts k ws) {pre : List Nat} (nd : pre.Nodup) (hd : ∀ i ∈ pre, i < ts.length) : LayK (tsN ts pre) k (pre.map fun i => ws.getD i .non) := by
  have hwl := hL.len
  refine ⟨by unfold tsN; rw [List.length_map, List.length_map], fun x hx => ?_, fun f => ?_⟩
  · obtain ⟨i, hi, rfl⟩ := List.mem_map.mp hx
    have il : i < ws.length := by have := hd i hi; omega
    have : ws.getD i .non ∈ ws := by
      rw [List.getD_eq_getElem?_getD, List.getElem?_eq_getElem il]
      exact List.getElem_mem il
    exact hL.each _ this
  · rw [lay_pre]
    obtain ⟨l', hp, hs⟩ := sub_of (nd.filter fun i => decide (ws.getD i .non = V.int f)) (List.nodup_range.filter fun i => decide (ws.getD i .non = V.int f)) (m := (List.range ts.length).filter fun i => decide (ws.getD i .non = V.int f)) fun x hx => by
      obtain ⟨h1, h2⟩ := List.mem_filter.mp hx
      exact List.mem_filter.mpr ⟨List.mem_range.mpr (hd x h1), h2⟩
    rw [ringlessF_perm (tsN_perm hp)]
    refine ringlessF_sub (hs.map _) ?_
    have := hL.tree f
    rw [lay_tsN hwl] at this
    exact this
end FF
namespace FF
open PySem PySem.Spec PyProof.Rows L2
variable [LT]
/-! ### none dearer -/
end FF
namespace FF
open PySem PySem.Spec PyProof.Rows L2
variable [LT]
/-! ### the told paper of cheapest ties is let by -/
end FF
namespace FF
open PySem PySem.Spec PyProof.Rows L2
variable [LT]
/-! ### numbers sorted -/
end FF
namespace FF
open PySem PySem.Spec PyProof.Rows L2
variable [LT]
/-! ### ties in another order: the same prices are laid -/
theorem LayK.can {n : Nat} {ts : List (Int × Int)} {k : Int} {ws : List V} (hL : LayK ts k ws) (hk : 0 ≤ k) : canF n (tsN ts (ldN ws (List.range ts.length))) k = true := canF_iff.mpr fun ls hls => by
  rw [← laidT_tsN hL.len]
  exact hL.most hk (hls.up.imp fun h => Int.ne_of_lt h) hls.ne
theorem shaped_Li (ls : List Int) : SeqAt.shaped (.list (ls.map PyData.int)) = true := by
  have := shaped_tints ls
  exact this
end FF
namespace FF
open PySem PySem.Spec PyProof.Rows L2
variable [LT]
/-! ### str of data: asked where no repr is under way -/
/-! a def that is right where no repr is under way -/
end FF
namespace FF
open PySem PySem.Spec PyProof.Rows L2
variable [LT]
/-! ### the end of a law that asks str: it starts where no repr is under way -/
section
variable {K : PySem.W.Frag} {cs : List (Addr × Addr)} {a : Addr} {vs : List Value} {ns : List Int} {h : Heap}
open Classical in
/-- all that is tracked at a law's start: the tables, and the script's list unless it stands in the fragment -/
noncomputable def H0G (K : PySem.W.Frag) (cs : List (Addr × Addr)) (a : Addr) (vs : List Value) (ns : List Int) : Hp := fun b =>
  if (∃ p ∈ cs, p.2 = b) then some (.tbl #[]) else if b = a ∧ K.lookup a = none then some (.frz { cls := .type "list", data := .seq vs.toArray } (.lst (ns.map V.int))) else none
end
end FF
namespace FF
open PySem PySem.Spec PyProof.Rows L2
variable [LT]
/-! ### lots of any thing -/
end FF
namespace FF
open PySem PySem.Spec PyProof.Rows L2
variable [LT]
/-! ### data that str shows -/
end FF
namespace FF
open PySem PySem.Spec PyProof.Rows L2
variable [LT]
/-! ### sums of prices; what cheapest_ties tells, as data -/
def dLo : Option (List Int) → PyData
  | none => .none
  | some ls => .tuple (ls.map PyData.int)
theorem LoP.dp {K : PySem.W.Frag} {H : Hp} : ∀ {xs : List V} {lo : List (Option (List Int))}, LoP H xs lo → DpAll K H xs (lo.map dLo)
  | _, _, .nil => .nil
  | _, none :: _, .cons h t => by
    have h : _ = V.non := h
    rw [h]
    exact .cons .non (LoP.dp t)
  | _, some ls :: _, .cons h t => by
    obtain ⟨q, rfl, hq⟩ := h
    exact .cons (.tup (sqT_of hq) (dp_ints ls)) (LoP.dp t)
end FF
namespace FF
open PySem PySem.Spec PyProof.Rows L2
variable [LT]
/-! ### defs that are called within an except suite -/
section
open HotX L2H
end
end FF
namespace FF
open PySem PySem.Spec PyProof.Rows L2
variable [LT]
/-! ### stand-ins -/
end FF
namespace FF
open PySem PySem.Spec PyProof.Rows L2
variable [LT]
/-! ### the numbers without one -/
end FF
namespace FF
open PySem PySem.Spec PyProof.Rows L2
variable [LT]
/-! ### all stand-ins -/
end FF
namespace FF
open PySem PySem.Spec PyProof.Rows L2
variable [LT]
/-! ### a search that goes on and back (what it may still find, how long it goes) -/
end FF
namespace FF
open PySem PySem.Spec PyProof.Rows L2
variable [LT]
/-! ### dict(zip(xs, ys)) of two lists, the keys ints -/
section
variable {X : Cx}
end
end FF
namespace FF
open PySem PySem.Spec PyProof.Rows L2
variable [LT]
/-! ### papers made up: places turned, reasons picked -/
/-! the greedy, piece by piece -/
end FF
namespace FF
open PySem PySem.Spec PyProof.Rows L2
variable [LT]
/-! ### one of a list's things -/
end FF
namespace FF
open PySem PySem.Spec PyProof.Rows L2
variable [LT]
/-! ### tuple(reversed(xs)), xs a tuple -/
section
open RT PySem
variable {prog : Program} {w : World} {A : Around} {E : Value → Shared → Prop} {s : Shared}
end
section
open RT PySem
variable {X : Cx}
end
end FF
namespace FF
open PySem PySem.Spec PyProof.Rows L2
variable [LT]
/-! ### cheaper ties make trees in a reason's lot; the same ties at other prices -/
/-! the ring within the reason's lot -/
/-! three trees on all points -/
end FF
namespace FF
open PySem PySem.Spec PyProof.Rows L2
variable [LT]
/-! ### webs of which all is laid, two points, a ring -/
/-! two points -/
/-! a ring -/
end FF
namespace FF
open PySem PySem.Spec PyProof.Rows L2
variable [LT]
/-! ### what is told of a ring and of two points -/
theorem Lots.lop {H : Hp} : ∀ {rs : List V} {lss : List (List Int)}, Lots H rs lss → LoP H rs (lss.map some)
  | _, _, .nil => .nil
  | _, _, .cons h t => .cons h (Lots.lop t)
end FF
namespace FF
open PySem PySem.Spec PyProof.Rows L2
variable [LT]
/-! ### t[i::m] of a tuple -/
section
variable {prog : Program} {w : World} {A : Around} {E : Value → Shared → Prop} {s : Shared}
end
section
variable {X : Cx}
end
end FF
namespace FF
open PySem PySem.Spec PyProof.Rows L2
variable [LT]
/-! ### fractions: thickness, strength, crowd -/
end FF
namespace FF
open PySem PySem.Spec PyProof.Rows L2
variable [LT]
/-! ### a match in the heap -/
def mtcF (a b : V) : List (Str × V) := [("net", a), ("places", b)]
theorem mtc_net {a b : V} : (mtcF a b).lookup ("net" : Str) = some a := by
  unfold mtcF
  rw [lkH]
theorem mtc_places {a b : V} : (mtcF a b).lookup ("places" : Str) = some b := by
  unfold mtcF
  rw [lkM (by decide +kernel : ¬ ("places" : Str) = "net"), lkH]
theorem mtc_new {a b : V} : putF "places" b (putF "net" a []) = mtcF a b := by
  rw [show putF "net" a [] = [(("net" : Str), a)] from rfl, pfM (by decide +kernel : ¬ ("net" : Str) = "places"), show putF "places" b [] = [(("places" : Str), b)] from rfl]
  rfl
structure Mtc (K : PySem.W.Frag) (H : Hp) (x lp : Addr) (n : Int) (ts : List (Int × Int)) (ws : List V) : Prop where
  at_ : ∃ dx nv, H x = some (.ins (He.ga K "Match") dx (mtcF nv (.ref lp))) ∧ Web H nv n ts
  pl : H lp = some (.lst ws)
  ok : TOk n ts
  wl : ws.length = ts.length
  isO : ∀ z ∈ ws, IsO z
  n0 : 1 ≤ n
  n1 : n ≤ 60
  len : ts.length ≤ 120
theorem Mtc.ke {K : PySem.W.Frag} {H H' : Hp} {x lp : Addr} {n : Int} {ts : List (Int × Int)} {ws : List V} (h : Mtc K H x lp n ts ws) (k : Ke H H') : Mtc K H' x lp n ts ws := by
  obtain ⟨dx, nv, h1, h2⟩ := h.at_
  exact ⟨⟨dx, nv, k.at_ _ _ h1 (fun _ z => nomatch z) (fun z => z), h2.ke k⟩, k.lst h.pl, h.ok, h.wl, h.isO, h.n0, h.n1, h.len⟩
theorem mtc_other {a b : V} {m : Str} (h1 : ¬ m = "net") (h2 : ¬ m = "places") : (mtcF a b).lookup m = none := by
  unfold mtcF
  rw [lkM h1, lkM h2]
  rfl
theorem mtc_na {a b : V} : (mtcF a b).lookup ("numbers_at" : Str) = none := mtc_other (by decide +kernel) (by decide +kernel)
theorem mtc_state {a b : V} : (mtcF a b).lookup ("state" : Str) = none := mtc_other (by decide +kernel) (by decide +kernel)
theorem mtc_cut {a b : V} : (mtcF a b).lookup ("cut" : Str) = none := mtc_other (by decide +kernel) (by decide +kernel)
theorem mtc_cuts {a b : V} : (mtcF a b).lookup ("cuts" : Str) = none := mtc_other (by decide +kernel) (by decide +kernel)
theorem mtc_joined {a b : V} : (mtcF a b).lookup ("joined" : Str) = none := mtc_other (by decide +kernel) (by decide +kernel)
theorem mtc_bridge {a b : V} : (mtcF a b).lookup ("bridge_for" : Str) = none := mtc_other (by decide +kernel) (by decide +kernel)
theorem Mtc.nums {K : PySem.W.Frag} {H : Hp} {x lp : Addr} {n : Int} {ts : List (Int × Int)} {ws : List V} (h : Mtc K H x lp n ts ws) (g : Int) : ∀ m ∈ numsFrom g 0 ws, 0 ≤ m ∧ m < (ts.length : Int) := fun m hm => by
  have := nums_bd g 0 ws m hm
  have := h.wl
  omega
theorem mtc_pick {ts : List (Int × Int)} {ws : List V} (h : ts.length = ws.length) (g : Int) : pick ts (numsFrom g 0 ws) = layerOf ts ws g := pick_nums g [] ts ws h
theorem Mtc.put {K : PySem.W.Frag} {H : Hp} {x lp : Addr} {n : Int} {ts : List (Int × Int)} {ws us : List V} (h : Mtc K H x lp n ts ws) (hl : us.length = ws.length) (ho : ∀ z ∈ us, IsO z) : Mtc K (upd H lp (.lst us)) x lp n ts us := by
  obtain ⟨dx, nv, h1, h2⟩ := h.at_
  have hx : x ≠ lp := fun e => by
    have := h.pl
    rw [← e, h1] at this
    cases this
  refine ⟨⟨dx, nv, by rw [upd_ne hx]; exact h1, ?_⟩, upd_same, h.ok, by rw [hl]; exact h.wl, ho, h.n0, h.n1, h.len⟩
  exact (Ke.put h.pl fun _ z => nomatch z).web (fun b xs z (e : b = lp) => by
    have := h.pl
    rw [← e, z] at this
    cases this) h2
theorem isO_set {ws : List V} {t : Nat} {g : Int} (h : ∀ z ∈ ws, IsO z) : ∀ z ∈ ws.set t (.int g), IsO z := fun z hz => by
  rcases List.mem_or_eq_of_mem_set hz with e | e
  · exact h z e
  · rw [e]
    exact .inr ⟨g, rfl⟩
theorem ix_nat {n t : Nat} (h : t < n) : ixN n (t : Int) = some t := by rw [ix_in (by omega) (by omega), Int.toNat_natCast]
theorem Mtc.kx {S : Addr → Prop} {K : PySem.W.Frag} {H H' : Hp} {x lp : Addr} {n : Int} {ts : List (Int × Int)} {ws : List V} (h : Mtc K H x lp n ts ws) (k : Kx S H H') (sx : ¬ S x) (sl : ¬ S lp) (st : ∀ b xs, H b = some (.tup xs) → ¬ S b) : Mtc K H' x lp n ts ws := by
  obtain ⟨dx, nv, h1, h2⟩ := h.at_
  exact ⟨⟨dx, nv, k.at_ _ _ h1 (fun _ z => nomatch z) sx, k.web st h2⟩, k.at_ _ _ h.pl (fun _ z => nomatch z) sl, h.ok, h.wl, h.isO, h.n0, h.n1, h.len⟩
theorem Mtc.dk {K : PySem.W.Frag} {H H' : Hp} {p x lp : Addr} {n : Int} {ts : List (Int × Int)} {ws : List V} (h : Mtc K H x lp n ts ws) (k : Dk p H H') (d : Deck H p) (hp : p ≠ lp) : Mtc K H' x lp n ts ws := by
  obtain ⟨ds, e, g⟩ := d
  obtain ⟨dx, nv, h1, h2⟩ := h.at_
  refine h.kx k.k (fun z : x = p => by rw [z, e] at h1; cases h1) (fun z : lp = p => hp z.symm) (fun b xs hb (z : b = p) => by rw [z, e] at hb; cases hb)
end FF
namespace FF
open PySem PySem.Spec PyProof.Rows L2
variable [LT]
/-! ### trees that join all points, and the tie that bridges -/
theorem heads_num {n : Int} {L : List (Int × Int)} (hn : 0 ≤ n) (ok : TOk n L) (hr : ringlessF (fun x => x) L = true) : L.length + (nub (headsF (upTo n) L)).length = n.toNat := by
  have h := ((forest_count L _ _ (Ker.start hn) ok).2.mp hr)
  rw [nub_of_nd (upTo_nd n), upTo_length] at h
  exact h
theorem tree_joins {n : Int} {L : List (Int × Int)} (hn : 1 ≤ n) (ok : TOk n L) (hr : ringlessF (fun x => x) L = true) (hl : (L.length : Int) = n - 1) {x y : Int} (x0 : 0 ≤ x) (x1 : x < n) (y0 : 0 ≤ y) (y1 : y < n) : foldR (fun x => x) L x = foldR (fun x => x) L y := by
  have h := heads_num (by omega) ok hr
  have k := (Ker.start (n := n) (by omega)).heads ok
  refine (k.ker x y x0 x1 y0 y1).mpr ?_
  have h1 : (nub (headsF (upTo n) L)).length = 1 := by omega
  obtain ⟨c, hc⟩ := List.length_eq_one_iff.mp h1
  have hk := k.len
  have a : ∀ z, 0 ≤ z → z < n → hat (headsF (upTo n) L) z = c := fun z z0 z1 => by
    have := (mem_nub _ _).mpr (hat_mem (hs := headsF (upTo n) L) z0 (by omega))
    rw [hc] at this
    exact List.mem_singleton.mp this
  rw [a x x0 x1, a y y0 y1]
theorem short_apart {n : Int} {L : List (Int × Int)} (hn : 1 ≤ n) (ok : TOk n L) (hr : ringlessF (fun x => x) L = true) (hl : (L.length : Int) < n - 1) : ∃ x y, (0 ≤ x ∧ x < n) ∧ (0 ≤ y ∧ y < n) ∧ foldR (fun x => x) L x ≠ foldR (fun x => x) L y := by
  refine Classical.byContradiction fun no => ?_
  have h := heads_num (by omega) ok hr
  have k := (Ker.start (n := n) (by omega)).heads ok
  have hk := k.len
  have a : ∀ z, 0 ≤ z → z < n → hat (headsF (upTo n) L) z = hat (headsF (upTo n) L) 0 := fun z z0 z1 => (k.ker z 0 z0 z1 (by omega) (by omega)).mp (Classical.byContradiction fun e => no ⟨z, 0, ⟨z0, z1⟩, ⟨by omega, by omega⟩, e⟩)
  have h2 := nd_le (nub_nd (headsF (upTo n) L)) (m := [hat (headsF (upTo n) L) 0]) fun c hc => by
    obtain ⟨i, hi, e⟩ := List.getElem_of_mem ((mem_nub _ _).mp hc)
    have := a (i : Int) (by omega) (by omega)
    unfold hat at this
    rw [List.getD_eq_getElem?_getD, Int.toNat_natCast, List.getElem?_eq_getElem hi, Option.getD_some, e] at this
    rw [List.mem_singleton, this]
    rfl
  have h2 : (nub (headsF (upTo n) L)).length ≤ 1 := h2
  omega
theorem pickM_ok {n : Int} {ts : List (Int × Int)} {ms : List Int} (ok : TOk n ts) (h : ∀ m ∈ ms, 0 ≤ m ∧ m < (ts.length : Int)) : TOk n (pick ts ms) := fun t ht => by
  obtain ⟨m, hm, rfl⟩ := List.mem_map.mp ht
  obtain ⟨m0, m1⟩ := h m hm
  refine ok _ ?_
  rw [List.getD_eq_getElem?_getD, List.getElem?_eq_getElem (by omega : m.toNat < ts.length)]
  exact List.getElem_mem _
/-- a tree has a tie that joins what a shorter forest leaves apart -/
theorem exch {n : Int} {ts : List (Int × Int)} {ms ns : List Int} (hn : 1 ≤ n) (ok : TOk n ts) (h1 : ∀ m ∈ ms, 0 ≤ m ∧ m < (ts.length : Int)) (h2 : ∀ m ∈ ns, 0 ≤ m ∧ m < (ts.length : Int)) (a : Fo ts ms) (b : Fo ts ns) (la : (ms.length : Int) < n - 1) (lb : (ns.length : Int) = n - 1) : ∃ t ∈ ns, ¬ jn ts ms (tk ts t).1 (tk ts t).2 := by
  refine Classical.byContradiction fun no => ?_
  obtain ⟨x, y, ⟨x0, x1⟩, ⟨y0, y1⟩, e⟩ := short_apart hn (pickM_ok ok h1) a.rl (by rw [pick_length]; exact la)
  refine e (foldR_fine (L := pick ts ns) (r := fun x => x) (fun _ _ z => congrArg _ z) (fun t ht => ?_) x y (tree_joins hn (pickM_ok ok h2) b.rl (by rw [pick_length]; exact lb) x0 x1 y0 y1))
  obtain ⟨m, hm, rfl⟩ := List.mem_map.mp ht
  exact Classical.byContradiction fun z => no ⟨m, hm, z⟩
/-! ### where the ties of a match are -/
theorem nums_set {g : Int} {ws : List V} {t : Nat} {v : V} (ht : t < ws.length) {m : Int} : m ∈ numsFrom g 0 (ws.set t v) ↔ (m = (t : Int) ∧ v = .int g) ∨ (m ≠ (t : Int) ∧ m ∈ numsFrom g 0 ws) := by
  rw [nums_iff, nums_iff]
  by_cases c : m = (t : Int)
  · subst c
    rw [Int.toNat_natCast, List.getElem?_set_self ht]
    constructor
    · rintro ⟨_, h⟩
      exact .inl ⟨rfl, Option.some.inj h⟩
    · rintro (⟨_, h⟩ | ⟨h, _⟩)
      · exact ⟨by omega, by rw [h]⟩
      · exact absurd rfl h
  · constructor
    · rintro ⟨h0, h⟩
      rw [List.getElem?_set_ne (by omega)] at h
      exact .inr ⟨c, h0, h⟩
    · rintro (⟨h, _⟩ | ⟨_, h0, h⟩)
      · exact absurd h c
      · exact ⟨h0, by rw [List.getElem?_set_ne (by omega)]; exact h⟩
abbrev trN (ws : List V) (g : Int) : List Int := numsFrom 2 0 ws ++ numsFrom g 0 ws
theorem nums_apart {ws : List V} {g h m : Int} (a : m ∈ numsFrom g 0 ws) (b : m ∈ numsFrom h 0 ws) : g = h := by
  obtain ⟨_, a⟩ := nums_iff.mp a
  obtain ⟨_, b⟩ := nums_iff.mp b
  rw [a] at b
  cases b
  rfl
theorem trN_nd (ws : List V) {g : Int} (hg : g ≠ 2) : (trN ws g).Nodup := by
  refine List.nodup_append.mpr ⟨nums_nd _ _ _, nums_nd _ _ _, fun x hx y hy e => ?_⟩
  subst e
  exact hg (nums_apart hy hx)
/-- the two trees of a match: what is kept with each of them joins all points and has no ring -/
structure MatchOk (n : Int) (ts : List (Int × Int)) (ws : List V) : Prop where
  vals : ∀ z ∈ ws, z = V.non ∨ ∃ g, z = V.int g ∧ 0 ≤ g ∧ g ≤ 3
  tree : ∀ g, 0 ≤ g → g ≤ 1 → Fo ts (trN ws g) ∧ ((trN ws g).length : Int) = n - 1
theorem set_vals {ws : List V} {t : Nat} {v : V} (h : ∀ z ∈ ws, z = V.non ∨ ∃ g, z = V.int g ∧ 0 ≤ g ∧ g ≤ 3) (hv : ∃ g, v = V.int g ∧ 0 ≤ g ∧ g ≤ 3) : ∀ z ∈ ws.set t v, z = V.non ∨ ∃ g, z = V.int g ∧ 0 ≤ g ∧ g ≤ 3 := fun z hz => by
  rcases List.mem_or_eq_of_mem_set hz with z' | z'
  · exact h z z'
  · rw [z']
    exact .inr hv
theorem fo_same {ts : List (Int × Int)} {ms ns : List Int} (h : Fo ts ms) (hn : ns.Nodup) (hm : ∀ x, x ∈ ns ↔ x ∈ ms) : Fo ts ns ∧ ns.length = ms.length := ⟨h.same hn hm, nd_eq hn h.nd hm⟩
/-- a tie of no tree is cut -/
theorem MatchOk.cutN {n : Int} {ts : List (Int × Int)} {ws : List V} {t : Nat} (h : MatchOk n ts ws) (ht : ws[t]? = some .non) : MatchOk n ts (ws.set t (.int 3)) := by
  have tl := (List.getElem?_eq_some_iff.mp ht).1
  refine ⟨set_vals h.vals ⟨3, rfl, by decide, by decide⟩, fun g g0 g1 => ?_⟩
  obtain ⟨a, la⟩ := h.tree g g0 g1
  have key : ∀ (k m : Int), k ≠ 3 → (m ∈ numsFrom k 0 (ws.set t (.int 3)) ↔ m ∈ numsFrom k 0 ws) := fun k m hk => by
    rw [nums_set tl]
    constructor
    · rintro (⟨_, e⟩ | ⟨_, e⟩)
      · cases e
        exact absurd rfl hk
      · exact e
    · intro e
      refine .inr ⟨fun z => ?_, e⟩
      rw [z] at e
      have := (nums_iff.mp e).2
      rw [Int.toNat_natCast, ht] at this
      cases this
  obtain ⟨b, lb⟩ := fo_same a (trN_nd (ws.set t (.int 3)) (by omega : g ≠ 2)) fun x => by
    rw [List.mem_append, List.mem_append, key 2 x (by decide), key g x (by omega)]
  exact ⟨b, by rw [lb]; exact la⟩
/-- behind a cut of a tie of a tree -/
theorem MatchOk.mid {n : Int} {ts : List (Int × Int)} {ws : List V} {t : Nat} {g : Int} (h : MatchOk n ts ws) (g0 : 0 ≤ g) (g1 : g ≤ 1) (ht : ws[t]? = some (.int g)) :
    Fo ts (trN (ws.set t (.int 3)) g) ∧ ((trN (ws.set t (.int 3)) g).length : Int) = n - 2 ∧ Fo ts (trN (ws.set t (.int 3)) (1 - g)) ∧ ((trN (ws.set t (.int 3)) (1 - g)).length : Int) = n - 1 := by
  have tl := (List.getElem?_eq_some_iff.mp ht).1
  have tm : ∀ k : Int, k ≠ g → (t : Int) ∉ numsFrom k 0 ws := fun k hk z => by
    have := (nums_iff.mp z).2
    rw [Int.toNat_natCast, ht] at this
    cases this
    exact hk rfl
  have key : ∀ (k m : Int), k ≠ 3 → (m ∈ numsFrom k 0 (ws.set t (.int 3)) ↔ m ≠ (t : Int) ∧ m ∈ numsFrom k 0 ws) := fun k m hk => by
    rw [nums_set tl]
    constructor
    · rintro (⟨_, e⟩ | e)
      · cases e
        exact absurd rfl hk
      · exact e
    · exact .inr
  obtain ⟨a, la⟩ := h.tree g g0 g1
  obtain ⟨b, lb⟩ := h.tree (1 - g) (by omega) (by omega)
  have tg : (t : Int) ∈ trN ws g := List.mem_append_right _ (nums_iff.mpr ⟨by omega, by rw [Int.toNat_natCast]; exact ht⟩)
  obtain ⟨c, lc⟩ := fo_same (a.but (t : Int)) (trN_nd (ws.set t (.int 3)) (by omega : g ≠ 2)) fun x => by
    rw [mem_but, List.mem_append, List.mem_append, key 2 x (by decide), key g x (by omega)]
    constructor
    · rintro (⟨e, z⟩ | ⟨e, z⟩)
      · exact ⟨.inl z, e⟩
      · exact ⟨.inr z, e⟩
    · rintro ⟨z | z, e⟩
      · exact .inl ⟨e, z⟩
      · exact .inr ⟨e, z⟩
  obtain ⟨d, ld⟩ := fo_same b (trN_nd (ws.set t (.int 3)) (by omega : 1 - g ≠ 2)) fun x => by
    rw [List.mem_append, List.mem_append, key 2 x (by decide), key (1 - g) x (by omega)]
    constructor
    · rintro (⟨_, z⟩ | ⟨_, z⟩)
      · exact .inl z
      · exact .inr z
    · rintro (z | z)
      · exact .inl ⟨fun e => tm 2 (by omega) (e ▸ z), z⟩
      · exact .inr ⟨fun e => tm (1 - g) (by omega) (e ▸ z), z⟩
  have lbut : (trN ws g).length = (but (t : Int) (trN ws g)).length + 1 := (but_perm a.nd tg).length_eq.trans List.length_append
  exact ⟨c, by omega, d, by omega⟩
theorem MatchOk.bridge {n : Int} {ts : List (Int × Int)} {ws : List V} {t : Nat} {g : Int} (h : MatchOk n ts ws) (hn : 1 ≤ n) (ok : TOk n ts) (wl : ws.length = ts.length) (g0 : 0 ≤ g) (g1 : g ≤ 1) (ht : ws[t]? = some (.int g)) :
    ∃ b ∈ numsFrom (1 - g) 0 (ws.set t (.int 3)), ¬ jn ts (trN (ws.set t (.int 3)) g) (tk ts b).1 (tk ts b).2 := by
  obtain ⟨a, la, b, lb⟩ := h.mid g0 g1 ht
  have rng : ∀ k : Int, ∀ m ∈ trN (ws.set t (.int 3)) k, 0 ≤ m ∧ m < (ts.length : Int) := fun k m hm => by
    rcases List.mem_append.mp hm with z | z
    all_goals
      have := nums_bd _ _ _ m z
      rw [List.length_set] at this
      omega
  obtain ⟨m, hm, e⟩ := exch hn ok (rng g) (rng (1 - g)) a b (by omega) lb
  rcases List.mem_append.mp hm with z | z
  · exfalso
    exact e (foldR_tie (r := fun x => x) (ts := pick ts (trN (ws.set t (.int 3)) g)) (List.mem_map.mpr ⟨m, List.mem_append_left _ z, rfl⟩))
  · exact ⟨m, z, e⟩
theorem MatchOk.keep {n : Int} {ts : List (Int × Int)} {ws : List V} {t b : Nat} {g : Int} (h : MatchOk n ts ws) (g0 : 0 ≤ g) (g1 : g ≤ 1) (ht : ws[t]? = some (.int g)) (hb : (b : Int) ∈ numsFrom (1 - g) 0 (ws.set t (.int 3))) (hj : ¬ jn ts (trN (ws.set t (.int 3)) g) (tk ts b).1 (tk ts b).2) : MatchOk n ts ((ws.set t (.int 3)).set b (.int 2)) := by
  obtain ⟨a, la, c, lc⟩ := h.mid g0 g1 ht
  have hv := set_vals (t := t) h.vals ⟨3, rfl, by decide, by decide⟩
  generalize ws.set t (.int 3) = us at *
  have hbu := (nums_iff.mp hb).2
  rw [Int.toNat_natCast] at hbu
  have bl := (List.getElem?_eq_some_iff.mp hbu).1
  have bm : ∀ k : Int, k ≠ 1 - g → (b : Int) ∉ numsFrom k 0 us := fun k hk z => hk (nums_apart z hb)
  have key : ∀ (k m : Int), k ≠ 2 → (m ∈ numsFrom k 0 (us.set b (.int 2)) ↔ m ≠ (b : Int) ∧ m ∈ numsFrom k 0 us) := fun k m hk => by
    rw [nums_set bl]
    constructor
    · rintro (⟨_, e⟩ | e)
      · cases e
        exact absurd rfl hk
      · exact e
    · exact .inr
  have key2 : ∀ m : Int, (m ∈ numsFrom 2 0 (us.set b (.int 2)) ↔ m = (b : Int) ∨ m ∈ numsFrom 2 0 us) := fun m => by
    rw [nums_set bl]
    constructor
    · rintro (⟨e, _⟩ | ⟨_, e⟩)
      · exact .inl e
      · exact .inr e
    · rintro (e | e)
      · exact .inl ⟨e, rfl⟩
      · by_cases z : m = (b : Int)
        · exact .inl ⟨z, rfl⟩
        · exact .inr ⟨z, e⟩
  have hbg : (b : Int) ∉ trN us g := fun z => by
    rcases List.mem_append.mp z with z | z
    · exact bm 2 (by omega) z
    · exact bm g (by omega) z
  refine ⟨set_vals hv ⟨2, rfl, by decide, by decide⟩, fun k k0 k1 => ?_⟩
  by_cases ek : k = g
  · subst ek
    obtain ⟨d, ld⟩ := fo_same (a.add hbg hj) (trN_nd (us.set b (.int 2)) (by omega : k ≠ 2)) fun x => by
      rw [List.mem_append, List.mem_append, List.mem_append, key2, key k x (by omega), List.mem_singleton]
      constructor
      · rintro ((e | e) | ⟨_, e⟩)
        · exact .inr e
        · exact .inl (.inl e)
        · exact .inl (.inr e)
      · rintro ((e | e) | e)
        · exact .inl (.inr e)
        · exact .inr ⟨fun z => bm k (by omega) (z ▸ e), e⟩
        · exact .inl (.inl e)
    refine ⟨d, ?_⟩
    rw [ld, List.length_append]
    show (((trN us k).length + 1 : Nat) : Int) = n - 1
    omega
  · have ek2 : k = 1 - g := by omega
    subst ek2
    obtain ⟨d, ld⟩ := fo_same c (trN_nd (us.set b (.int 2)) (by omega : 1 - g ≠ 2)) fun x => by
      rw [List.mem_append, List.mem_append, key2, key (1 - g) x (by omega)]
      constructor
      · rintro ((e | e) | ⟨_, e⟩)
        · exact .inr (e ▸ hb)
        · exact .inl e
        · exact .inr e
      · rintro (e | e)
        · exact .inl (.inr e)
        · by_cases z : x = (b : Int)
          · exact .inl (.inl z)
          · exact .inr ⟨z, e⟩
    exact ⟨d, by rw [ld]; exact lc⟩
theorem nums_up (g : Int) : ∀ (i : Nat) (ws : List V), (numsFrom g i ws).Pairwise (· < ·)
  | _, [] => .nil
  | i, x :: ws => by
    show ((if x = V.int g then [(i : Int)] else []) ++ numsFrom g (i + 1) ws).Pairwise (· < ·)
    have ih := nums_up g (i + 1) ws
    split
    · refine List.pairwise_cons.mpr ⟨fun y hy => ?_, ih⟩
      have := (nums_bd g (i + 1) ws y hy).1
      omega
    · exact ih
theorem state_nd (ws : List V) : (((numsFrom 2 0 ws ++ numsFrom 0 0 ws) ++ numsFrom 1 0 ws) ++ numsFrom 3 0 ws).Nodup := by
  refine List.nodup_append.mpr ⟨List.nodup_append.mpr ⟨trN_nd ws (by decide), nums_nd _ _ _, fun x hx y hy e => ?_⟩, nums_nd _ _ _, fun x hx y hy e => ?_⟩
  · subst e
    rcases List.mem_append.mp hx with z | z
    · exact absurd (nums_apart z hy) (by decide)
    · exact absurd (nums_apart z hy) (by decide)
  · subst e
    rcases List.mem_append.mp hx with z | z
    · rcases List.mem_append.mp z with z | z
      · exact absurd (nums_apart z hy) (by decide)
      · exact absurd (nums_apart z hy) (by decide)
    · exact absurd (nums_apart z hy) (by decide)
end FF
namespace FF
open PySem PySem.Spec PyProof.Rows L2
variable [LT]
/-! ### a match is played -/
structure Pl3 (os : List Int) (i : Nat) (ws : List V) : Prop where
  cut : ∀ t : Nat, ws[t]? = some (.int 3) → (t : Int) ∈ os.take i
  done : ∀ t : Nat, t < ws.length → (t : Int) ∈ os.take i → ws[t]? = some (.int 2) ∨ ws[t]? = some (.int 3)
theorem Pl3.skip {os : List Int} {i t : Nat} {ws : List V} (h : Pl3 os i ws) (ht : os[i]? = some (t : Int)) (h2 : ws[t]? = some (.int 2)) : Pl3 os (i + 1) ws := by
  refine ⟨fun s hs => ?_, fun s sl hs => ?_⟩
  · rw [take_next ht]
    exact List.mem_append_left _ (h.cut s hs)
  · rw [take_next ht] at hs
    rcases List.mem_append.mp hs with z | z
    · exact h.done s sl z
    · have : s = t := by have := List.mem_singleton.mp z; omega
      rw [this]
      exact .inl h2
theorem Pl3.cut1 {os : List Int} {i t : Nat} {ws : List V} (h : Pl3 os i ws) (ht : os[i]? = some (t : Int)) (tl : t < ws.length) : Pl3 os (i + 1) (ws.set t (.int 3)) := by
  refine ⟨fun s hs => ?_, fun s sl hs => ?_⟩
  · rw [take_next ht]
    by_cases c : s = t
    · exact List.mem_append_right _ (List.mem_singleton.mpr (by omega))
    · rw [List.getElem?_set_ne (by omega)] at hs
      exact List.mem_append_left _ (h.cut s hs)
  · rw [take_next ht] at hs
    rw [List.length_set] at sl
    by_cases c : s = t
    · rw [c, List.getElem?_set_self tl]
      exact .inr rfl
    · rw [List.getElem?_set_ne (by omega)]
      rcases List.mem_append.mp hs with z | z
      · exact h.done s sl z
      · exact absurd (by have := List.mem_singleton.mp z; omega) c
theorem Pl3.kept {os : List Int} {j b : Nat} {g : Int} {us : List V} (h : Pl3 os j us) (hb : us[b]? = some (.int g)) (_ : 0 ≤ g) (g1 : g ≤ 1) : Pl3 os j (us.set b (.int 2)) := by
  have bl := (List.getElem?_eq_some_iff.mp hb).1
  refine ⟨fun s hs => ?_, fun s sl hs => ?_⟩
  · by_cases c : s = b
    · rw [c, List.getElem?_set_self bl] at hs
      cases hs
    · rw [List.getElem?_set_ne (by omega)] at hs
      exact h.cut s hs
  · rw [List.length_set] at sl
    by_cases c : s = b
    · rw [c, List.getElem?_set_self bl]
      exact .inl rfl
    · rw [List.getElem?_set_ne (by omega)]
      exact h.done s sl hs
theorem Pl3.end_ {n : Int} {ts : List (Int × Int)} {os : List Int} {i : Nat} {ws : List V} (h : Pl3 os i ws) (hM : MatchOk n ts ws) (all : ∀ t : Nat, t < ws.length → (t : Int) ∈ os.take i) : Fo ts (numsFrom 2 0 ws) ∧ ((numsFrom 2 0 ws).length : Int) = n - 1 := by
  obtain ⟨a, la⟩ := hM.tree 0 (by decide) (by decide)
  have e : numsFrom 0 0 ws = [] := List.eq_nil_iff_forall_not_mem.mpr fun m hm => by
    obtain ⟨m0, m1⟩ := nums_iff.mp hm
    have ml := (List.getElem?_eq_some_iff.mp m1).1
    rcases h.done m.toNat ml (all _ ml) with z | z
    · rw [m1] at z; cases z
    · rw [m1] at z; cases z
  have e2 : trN ws 0 = numsFrom 2 0 ws := by
    show numsFrom 2 0 ws ++ numsFrom 0 0 ws = _
    rw [e, List.append_nil]
  rw [e2] at a la
  exact ⟨a, la⟩
def trF (o1 o2 : Int) (z : V) : V := if z = .int o1 then .int 0 else if z = .int o2 then .int 1 else .non
theorem match_start {n k o1 o2 : Int} {ts : List (Int × Int)} {ws : List V} (ok : TOk n ts) (hn : 1 ≤ n) (hL : LayK ts k ws) (hk : 0 ≤ k) (all : (laidN ws : Int) = k * (n - 1)) (a0 : 0 ≤ o1) (a1 : o1 < k) (b0 : 0 ≤ o2) (b1 : o2 < k) (ne : o1 ≠ o2) :
    MatchOk n ts (ws.map (trF o1 o2)) ∧ ∀ z ∈ ws.map (trF o1 o2), z ≠ .int 3 := by
  have cases_ : ∀ z, trF o1 o2 z = .non ∨ trF o1 o2 z = .int 0 ∨ trF o1 o2 z = .int 1 := fun z => by
    unfold trF
    split
    · exact .inr (.inl rfl)
    · split
      · exact .inr (.inr rfl)
      · exact .inl rfl
  have key : ∀ (g o : Int), (∀ z, trF o1 o2 z = .int g ↔ z = .int o) → ∀ m, m ∈ numsFrom g 0 (ws.map (trF o1 o2)) ↔ m ∈ numsFrom o 0 ws := fun g o h m => by
    rw [nums_iff, nums_iff, List.getElem?_map]
    cases e : ws[m.toNat]? with
    | none => simp
    | some z =>
      rw [Option.map_some, Option.some.injEq, Option.some.injEq, h]
  have k0 : ∀ z, trF o1 o2 z = .int 0 ↔ z = .int o1 := fun z => by
    unfold trF
    by_cases a : z = .int o1
    · rw [if_pos a]; exact ⟨fun _ => a, fun _ => rfl⟩
    · rw [if_neg a]
      split
      · exact ⟨(fun e => by cases e), fun e => absurd e a⟩
      · exact ⟨(fun e => by cases e), fun e => absurd e a⟩
  have k1 : ∀ z, trF o1 o2 z = .int 1 ↔ z = .int o2 := fun z => by
    unfold trF
    by_cases a : z = .int o1
    · rw [if_pos a]
      exact ⟨(fun e => by cases e), (fun e => by rw [a] at e; cases e; exact absurd rfl ne)⟩
    · rw [if_neg a]
      by_cases b : z = .int o2
      · rw [if_pos b]; exact ⟨fun _ => b, fun _ => rfl⟩
      · rw [if_neg b]; exact ⟨(fun e => by cases e), fun e => absurd e b⟩
  have n2 : numsFrom 2 0 (ws.map (trF o1 o2)) = [] := List.eq_nil_iff_forall_not_mem.mpr fun m hm => by
    obtain ⟨_, h⟩ := nums_iff.mp hm
    rw [List.getElem?_map] at h
    obtain ⟨z, _, e⟩ := Option.map_eq_some_iff.mp h
    rcases cases_ z with c | c | c <;> rw [c] at e <;> cases e
  have fin : ∀ g o : Int, 0 ≤ o → o < k → (∀ z, trF o1 o2 z = .int g ↔ z = .int o) → Fo ts (trN (ws.map (trF o1 o2)) g) ∧ ((trN (ws.map (trF o1 o2)) g).length : Int) = n - 1 := fun g o o0 ok1 h => by
    have e : trN (ws.map (trF o1 o2)) g = numsFrom g 0 (ws.map (trF o1 o2)) := by
      show numsFrom 2 0 _ ++ _ = _
      rw [n2, List.nil_append]
    rw [e]
    have fo : Fo ts (numsFrom o 0 ws) := ⟨nums_nd _ _ _, by rw [mtc_pick hL.len.symm]; exact hL.tree o⟩
    obtain ⟨a, la⟩ := fo_same fo (nums_nd g 0 (ws.map (trF o1 o2))) (key g o h)
    refine ⟨a, ?_⟩
    rw [la, ← pick_length ts, mtc_pick hL.len.symm]
    exact (trees_iff hL ok hn hk).mp all o o0 ok1
  refine ⟨⟨fun z hz => ?_, fun g g0 g1 => ?_⟩, fun z hz e => ?_⟩
  · obtain ⟨y, _, rfl⟩ := List.mem_map.mp hz
    rcases cases_ y with c | c | c
    · exact .inl c
    · exact .inr ⟨0, c, by decide, by decide⟩
    · exact .inr ⟨1, c, by decide, by decide⟩
  · by_cases c : g = 0
    · subst c; exact fin 0 o1 a0 a1 k0
    · have : g = 1 := by omega
      subst this; exact fin 1 o2 b0 b1 k1
  · obtain ⟨y, _, rfl⟩ := List.mem_map.mp hz
    rcases cases_ y with c | c | c <;> rw [c] at e <;> cases e
end FF
namespace FF
open PySem PySem.Spec PyProof.Rows L2
variable [LT]
/-! ### a match told exactly -/
theorem kept_joined {n : Int} {ts : List (Int × Int)} {ws : List V} (hn : 1 ≤ n) (ok : TOk n ts) (hw : ws.length = ts.length) (hM : MatchOk n ts ws) : (decide (((numsFrom 2 0 ws).length : Int) = n - 1) && ringlessF (fun x => x) (layerOf ts ws 2)) = decide ((nub (headsF (upTo n) (pick ts (numsFrom 2 0 ws)))).length = 1) := by
  have fo := (hM.tree 0 (by decide) (by decide)).1
  have rl : ringlessF (fun x => x) (pick ts (numsFrom 2 0 ws)) = true := ringlessF_sub (by
    rw [pick_append]
    exact List.sublist_append_left _ _) fo.rl
  have rng : ∀ m ∈ numsFrom 2 0 ws, 0 ≤ m ∧ m < (ts.length : Int) := fun m hm => by
    have := nums_bd 2 0 ws m hm
    omega
  have hh := heads_num (by omega) (pickM_ok ok rng) rl
  rw [pick_length] at hh
  rw [← mtc_pick (by omega), rl, Bool.and_true]
  exact decide_eq_decide.mpr ⟨fun h => by omega, fun h => by omega⟩
theorem joined_end {n : Int} {ts : List (Int × Int)} {ws : List V} (hn : 1 ≤ n) (ok : TOk n ts) (hw : ws.length = ts.length) (hM : MatchOk n ts ws) (he : numsFrom 0 0 ws = []) : (decide (((numsFrom 2 0 ws).length : Int) = n - 1) && ringlessF (fun x => x) (layerOf ts ws 2)) = true := by
  obtain ⟨a, la⟩ := hM.tree 0 (by decide) (by decide)
  have e2 : trN ws 0 = numsFrom 2 0 ws := by
    show numsFrom 2 0 ws ++ numsFrom 0 0 ws = _
    rw [he, List.append_nil]
  rw [e2] at a la
  rw [decide_eq_true la, ← mtc_pick (by omega), a.rl]
  rfl
/-- the first tie of the other tree that joins what this one leaves apart -/
def brF (ts : List (Int × Int)) (ws : List V) (g : Int) : Option Int := (numsFrom (1 - g) 0 ws).find? fun m => !decide (jn ts (numsFrom 2 0 ws ++ numsFrom g 0 ws) (tk ts m).1 (tk ts m).2)
def CutV (ts : List (Int × Int)) (ws : List V) (t : Nat) (v y : V) (us : List V) : Prop := (v = .non ∧ y = .non ∧ us = ws.set t (.int 3)) ∨ ∃ (b : Nat) (g : Int), v = .int g ∧ y = .int (b : Int) ∧ brF ts (ws.set t (.int 3)) g = some (b : Int) ∧ us = (ws.set t (.int 3)).set b (.int 2) ∧ (ws.set t (.int 3))[b]? = some (.int (1 - g)) ∧ 0 ≤ g ∧ g ≤ 1
def CutR (ts : List (Int × Int)) (ws : List V) (t : Nat) (y : V) (us : List V) : Prop := ∃ v, ws[t]? = some v ∧ v ≠ .int 2 ∧ v ≠ .int 3 ∧ CutV ts ws t v y us
theorem CutR.same {ts : List (Int × Int)} {ws us us' : List V} {t : Nat} {y y' : V} (h : CutR ts ws t y us) (h' : CutR ts ws t y' us') : y = y' ∧ us = us' := by
  obtain ⟨v, e, _, _, c⟩ := h
  obtain ⟨v', e', _, _, c'⟩ := h'
  obtain rfl : v = v' := Option.some.inj (e.symm.trans e')
  rcases c with ⟨a, rfl, rfl⟩ | ⟨b, g, a, rfl, f, rfl, _⟩ <;> rcases c' with ⟨a', rfl, rfl⟩ | ⟨b', g', a', rfl, f', rfl, _⟩
  · exact ⟨rfl, rfl⟩
  · rw [a] at a'; cases a'
  · rw [a] at a'; cases a'
  · rw [a] at a'
    cases a'
    rw [f] at f'
    have := Option.some.inj f'
    obtain rfl : b = b' := by omega
    exact ⟨rfl, rfl⟩
theorem CutR.len {ts : List (Int × Int)} {ws us : List V} {t : Nat} {y : V} (h : CutR ts ws t y us) : us.length = ws.length := by
  obtain ⟨v, e, _, _, c⟩ := h
  rcases c with ⟨a, rfl, rfl⟩ | ⟨b, g, a, rfl, f, rfl, _⟩
  · rw [List.length_set]
  · rw [List.length_set, List.length_set]
/-- a tie of no tree: nothing but the cut one changes -/
theorem nums_non {ws : List V} {t : Nat} (ht : ws[t]? = some .non) {k : Int} (hk : k ≠ 3) : numsFrom k 0 (ws.set t (.int 3)) = numsFrom k 0 ws := by
  have tl := (List.getElem?_eq_some_iff.mp ht).1
  refine up_same (nums_up _ _ _) (nums_up _ _ _) fun m => ?_
  rw [nums_set tl]
  constructor
  · rintro (⟨_, e⟩ | ⟨_, e⟩)
    · cases e
      exact absurd rfl hk
    · exact e
  · intro e
    refine .inr ⟨fun z => ?_, e⟩
    rw [z] at e
    have := (nums_iff.mp e).2
    rw [Int.toNat_natCast, ht] at this
    cases this
theorem nums_cut3 {ws : List V} {t : Nat} (tl : t < ws.length) (m : Int) : m ∈ numsFrom 3 0 (ws.set t (.int 3)) ↔ m ∈ numsFrom 3 0 ws ∨ m = (t : Int) := by
  rw [nums_set tl]
  constructor
  · rintro (⟨e, _⟩ | ⟨_, e⟩)
    · exact .inr e
    · exact .inl e
  · intro e
    by_cases c : m = (t : Int)
    · exact .inl ⟨c, rfl⟩
    · exact .inr ⟨c, e.resolve_right c⟩
theorem CutR.n3 {ts : List (Int × Int)} {ws us : List V} {t : Nat} {y : V} (h : CutR ts ws t y us) (m : Int) : m ∈ numsFrom 3 0 us ↔ m ∈ numsFrom 3 0 ws ∨ m = (t : Int) := by
  obtain ⟨v, e, _, _, c⟩ := h
  have tl := (List.getElem?_eq_some_iff.mp e).1
  rcases c with ⟨a, rfl, rfl⟩ | ⟨b, g, a, rfl, f, rfl, hb, g0, g1⟩
  · exact nums_cut3 tl m
  · have bl := (List.getElem?_eq_some_iff.mp hb).1
    rw [nums_set bl, ← nums_cut3 tl m]
    constructor
    · rintro (⟨_, e⟩ | ⟨_, e⟩)
      · cases e
      · exact e
    · intro e
      refine .inr ⟨fun z => ?_, e⟩
      rw [z] at e
      have := (nums_iff.mp e).2
      rw [Int.toNat_natCast, hb] at this
      have := V.int.inj (Option.some.inj this)
      omega
/-- a tie of a tree: what is kept, and what is left of the two -/
theorem nums_kept {ws : List V} {t b : Nat} {g : Int} (ht : ws[t]? = some (.int g)) (g0 : 0 ≤ g) (g1 : g ≤ 1) (hb : (ws.set t (.int 3))[b]? = some (.int (1 - g))) (m : Int) : m ∈ numsFrom 2 0 ((ws.set t (.int 3)).set b (.int 2)) ↔ m ∈ numsFrom 2 0 ws ∨ m = (b : Int) := by
  have tl := (List.getElem?_eq_some_iff.mp ht).1
  have bl := (List.getElem?_eq_some_iff.mp hb).1
  rw [nums_set bl, nums_set tl]
  constructor
  · rintro (⟨e, _⟩ | ⟨_, ⟨_, e⟩ | ⟨_, e⟩⟩)
    · exact .inr e
    · cases e
    · exact .inl e
  · intro e
    by_cases c : m = (b : Int)
    · exact .inl ⟨c, rfl⟩
    · refine .inr ⟨c, .inr ⟨fun z => ?_, e.resolve_right c⟩⟩
      have e := e.resolve_right c
      rw [z] at e
      have := (nums_iff.mp e).2
      rw [Int.toNat_natCast, ht] at this
      have := V.int.inj (Option.some.inj this)
      omega
theorem nums_left {ws : List V} {t b : Nat} {g k : Int} (ht : ws[t]? = some (.int g)) (g0 : 0 ≤ g) (g1 : g ≤ 1) (hb : (ws.set t (.int 3))[b]? = some (.int (1 - g))) (k0 : 0 ≤ k) (k1 : k ≤ 1) : numsFrom k 0 ((ws.set t (.int 3)).set b (.int 2)) = (numsFrom k 0 ws).filter fun m => !decide (m ∈ [(t : Int), (b : Int)]) := by
  have tl := (List.getElem?_eq_some_iff.mp ht).1
  have bl := (List.getElem?_eq_some_iff.mp hb).1
  refine up_same (nums_up _ _ _) ((nums_up _ _ _).filter _) fun m => ?_
  rw [List.mem_filter, nums_set bl, nums_set tl, Bool.not_eq_true', decide_eq_false_iff_not, List.mem_cons, List.mem_singleton]
  constructor
  · rintro (⟨_, e⟩ | ⟨a, ⟨_, e⟩ | ⟨b', e⟩⟩)
    · have := V.int.inj e; omega
    · have := V.int.inj e; omega
    · exact ⟨e, fun z => z.elim b' a⟩
  · rintro ⟨e, z⟩
    exact .inr ⟨fun y => z (.inr y), .inr ⟨fun y => z (.inl y), e⟩⟩
/-! ### what was cut in turn -/
inductive Trc (ts : List (Int × Int)) (w0 : List V) : List (Int × V) → List V → Prop
  | nil : Trc ts w0 [] w0
  | snoc {f : List (Int × V)} {ws us : List V} {t : Nat} {y : V} : Trc ts w0 f ws → CutR ts ws t y us → Trc ts w0 (f ++ [((t : Int), y)]) us
theorem snoc_inj {α : Type} {a b : List α} {x y : α} (h : a ++ [x] = b ++ [y]) : a = b ∧ x = y := by
  have := List.append_inj' h rfl
  exact ⟨this.1, List.singleton_inj.mp this.2⟩
theorem Trc.same {ts : List (Int × Int)} {w0 : List V} {f : List (Int × V)} {us : List V} (h : Trc ts w0 f us) : ∀ {us'}, Trc ts w0 f us' → us = us' := by
  induction h with
  | nil =>
    intro us' h'
    generalize e : ([] : List (Int × V)) = f at h'
    cases h' with
    | nil => rfl
    | snoc _ _ => exact absurd e.symm (List.append_ne_nil_of_right_ne_nil _ (List.cons_ne_nil _ _))
  | snoc _ c ih =>
    intro us' h'
    generalize e : _ ++ [_] = f at h'
    cases h' with
    | nil => exact absurd e (List.append_ne_nil_of_right_ne_nil _ (List.cons_ne_nil _ _))
    | snoc h2 c2 =>
      obtain ⟨rfl, e2⟩ := snoc_inj e
      cases ih h2
      have := (Prod.mk.inj e2).1
      obtain rfl := Int.ofNat.inj this
      exact (c.same c2).2
/-- what stands before each cut -/
theorem Trc.at_ {ts : List (Int × Int)} {w0 : List V} {f : List (Int × V)} {us : List V} (h : Trc ts w0 f us) : ∀ {i : Nat} {p : Int × V}, f[i]? = some p → ∃ (t : Nat) (ws vs : List V), p.1 = (t : Int) ∧ Trc ts w0 (f.take i) ws ∧ CutR ts ws t p.2 vs ∧ Trc ts w0 (f.take (i + 1)) vs := by
  induction h with
  | nil => intro i p e; cases e
  | @snoc f ws us t y h c ih =>
    intro i p e
    have il := (List.getElem?_eq_some_iff.mp e).1
    rw [List.length_append] at il
    have il : i < f.length + 1 := il
    by_cases ci : i < f.length
    · rw [List.getElem?_append_left ci] at e
      obtain ⟨t', ws', vs', e1, h1, c1, h2⟩ := ih e
      refine ⟨t', ws', vs', e1, ?_, c1, ?_⟩
      · rw [List.take_append_of_le_length (by omega)]; exact h1
      · rw [List.take_append_of_le_length (by omega)]; exact h2
    · have ei : i = f.length := by omega
      subst ei
      rw [List.getElem?_append_right (Nat.le_refl _), Nat.sub_self] at e
      cases e
      refine ⟨t, ws, us, rfl, ?_, c, ?_⟩
      · rw [List.take_left]; exact h
      · rw [List.take_of_length_le (by rw [List.length_append]; exact Nat.le_refl _)]; exact h.snoc c
theorem trF_vals (o1 o2 : Int) (z : V) : trF o1 o2 z = .non ∨ trF o1 o2 z = .int 0 ∨ trF o1 o2 z = .int 1 := by
  unfold trF
  split
  · exact .inr (.inl rfl)
  · split
    · exact .inr (.inr rfl)
    · exact .inl rfl
theorem Stood.mt {n : Int} {ts : List (Int × Int)} {ws : List V} (h : Stood n ts 2 ws) (hn : 1 ≤ n) {o1 o2 : Int} (a0 : 0 ≤ o1) (a1 : o1 < 2) (b0 : 0 ≤ o2) (b1 : o2 < 2) (ne : o1 ≠ o2) : MatchOk n ts (ws.map (trF o1 o2)) := (match_start h.ok hn h.lay (by decide) ((trees_iff h.lay h.ok hn (by decide)).mpr h.all) a0 a1 b0 b1 ne).1
theorem Stood.val {n : Int} {ts : List (Int × Int)} {ws : List V} (h : Stood n ts 2 ws) : ∀ z ∈ ws, z = .non ∨ z = .int 0 ∨ z = .int 1 := fun z hz => (h.lay.each z hz).elim .inl fun ⟨f, e, f0, f1⟩ => by
  by_cases c : f = 0
  · subst c; exact .inr (.inl e)
  · obtain rfl : f = 1 := by omega
    exact .inr (.inr e)
theorem Stood.id {n : Int} {ts : List (Int × Int)} {ws : List V} (h : Stood n ts 2 ws) : ws.map (trF 0 1) = ws := by
  rw [List.map_congr_left (g := fun z => z) fun z hz => ?_, List.map_id']
  rcases h.val z hz with e | e | e <;> rw [e] <;> rfl
theorem nums_gone {ws : List V} (h : ∀ z ∈ ws, z = .non ∨ z = .int 0 ∨ z = .int 1) {k : Int} (hk : 2 ≤ k) : numsFrom k 0 ws = [] := List.eq_nil_iff_forall_not_mem.mpr fun m hm => by
  obtain ⟨_, e⟩ := nums_iff.mp hm
  rcases h _ (List.mem_of_getElem? e) with z | z | z
  · cases z
  · have := V.int.inj z; omega
  · have := V.int.inj z; omega
theorem up_perm {ms xs ns : List Int} (hp : ms.Perm xs) (hs : ms.Pairwise (· ≤ ·)) (nd : xs.Nodup) (hn : ns.Pairwise (· < ·)) (h : ∀ m, m ∈ ns ↔ m ∈ xs) : ms = ns := by
  have hnd : ms.Nodup := hp.nodup_iff.mpr nd
  refine up_same ?_ hn fun m => by rw [hp.mem_iff, h m]
  exact (hs.and hnd).imp fun z => by omega
theorem CutR.not3 {ts : List (Int × Int)} {ws us : List V} {t : Nat} {y : V} (h : CutR ts ws t y us) : (t : Int) ∉ numsFrom 3 0 ws := fun z => by
  obtain ⟨v, e, _, h3, _⟩ := h
  have := (nums_iff.mp z).2
  rw [Int.toNat_natCast, e] at this
  exact h3 (Option.some.inj this)
theorem nd_snoc {ns : List Int} {t : Int} (h : ns.Nodup) (ht : t ∉ ns) : (ns ++ [t]).Nodup := List.nodup_append.mpr ⟨h, List.nodup_cons.mpr ⟨List.not_mem_nil, .nil⟩, fun x hx y hy e => ht (by rw [List.mem_singleton] at hy; rw [← hy, ← e]; exact hx)⟩
/-- the cuts, sorted with the newest -/
theorem CutR.sort3 {ts : List (Int × Int)} {ws us : List V} {t : Nat} {y : V} (h : CutR ts ws t y us) {ms : List Int} (hp : ms.Perm (numsFrom 3 0 ws ++ [(t : Int)])) (hs : ms.Pairwise (· ≤ ·)) : ms = numsFrom 3 0 us := up_perm hp hs (nd_snoc (nums_nd _ _ _) h.not3) (nums_up _ _ _) fun m => by rw [h.n3 m, List.mem_append, List.mem_singleton]
theorem dp_st {K : PySem.W.Frag} {H : Hp} {p a b c : Addr} {A B C : List Int} (hp : H p = some (.tup [.ref a, .ref b, .ref c])) (ha : H a = some (.tup (A.map V.int))) (hb : H b = some (.tup (B.map V.int))) (hc : H c = some (.tup (C.map V.int))) : Dp K H (.ref p) (.tuple ([A, B, C].map fun l => .tuple (l.map PyData.int))) :=
  .tup (sqT_of hp) (.cons (.tup (sqT_of ha) (dp_ints A)) (.cons (.tup (sqT_of hb) (dp_ints B)) (.cons (.tup (sqT_of hc) (dp_ints C)) .nil)))
theorem sw_at {z : V} (h : z = .non ∨ z = .int 0 ∨ z = .int 1) : ∃ (j : Nat) (y : V), flatV z = true ∧ [V.non, .int 0, .int 1][j]? = some y ∧ eqV y z = true ∧ (∀ (m : Nat) (z' : V), m < j → [V.non, .int 0, .int 1][m]? = some z' → eqV z' z = false) ∧ atI [V.non, .int 1, .int 0] (j : Int) = some (trF 1 0 z) := by
  rcases h with rfl | rfl | rfl
  · exact ⟨0, .non, rfl, rfl, rfl, fun m z' hm => by omega, rfl⟩
  · refine ⟨1, .int 0, rfl, rfl, rfl, fun m z' hm e => ?_, rfl⟩
    obtain rfl : m = 0 := by omega
    cases e
    rfl
  · refine ⟨2, .int 1, rfl, rfl, rfl, fun m z' hm e => ?_, rfl⟩
    have : m = 0 ∨ m = 1 := by omega
    rcases this with rfl | rfl
    · cases e; rfl
    · cases e; rfl
/-- what came new may change: several at once -/
theorem Kx.pastG {S S' : Addr → Prop} {H H1 H2 : Hp} (k : Kx S H H1) (k2 : Kx S' H1 H2) (hx : ∀ b, S' b → S b ∨ H b = none) : Kx S H H2 := ⟨fun b o e n q => k2.at_ b o (k.at_ b o e n q) n (fun z => (hx b z).elim q fun y => by rw [y] at e; cases e), fun b t => k2.tab b (k.tab b t), fun b e => k.dom b (k2.dom b e), fun b ps l n e => k2.lam b ps l (fun z => (hx b z).elim n fun y => by rw [y] at e; cases e) (k.lam b ps l n e)⟩
theorem not4 {G : Hp} {p lp lp2 fo : Addr} {a b c : List V} (d : Deck G p) (h1 : G lp = some (.lst a)) (h2 : G lp2 = some (.lst b)) (h3 : G fo = some (.lst c)) : ∀ q xs, G q = some (.tup xs) → ¬ (q = p ∨ q = lp ∨ q = lp2 ∨ q = fo) := fun q xs hq z => by
  obtain ⟨ds, e, _⟩ := d
  rcases z with rfl | rfl | rfl | rfl
  · rw [e] at hq; cases hq
  · rw [h1] at hq; cases hq
  · rw [h2] at hq; cases hq
  · rw [h3] at hq; cases hq
/-- the pairs of a cut tie and what was kept for it -/
def FdP (H : Hp) (rs : List V) (fl : List (Int × V)) : Prop := Paired (fun (r : V) (t : Int × V) => ∃ q, r = .ref q ∧ H q = some (.tup [.int t.1, t.2])) rs fl
theorem FdP.mono {H H' : Hp} {rs : List V} {fl : List (Int × V)} (h : FdP H rs fl) (k : ∀ q xs, H q = some (.tup xs) → H' q = some (.tup xs)) : FdP H' rs fl := L2.Paired.mapP h fun _ _ ⟨q, e, z⟩ => ⟨q, e, k q _ z⟩
theorem FdP.length {H : Hp} {rs : List V} {fl : List (Int × V)} (h : FdP H rs fl) : rs.length = fl.length := Paired.length h
theorem FdP.append {H : Hp} : ∀ {rs qs : List V} {ps us : List (Int × V)}, FdP H rs ps → FdP H qs us → FdP H (rs ++ qs) (ps ++ us)
  | _, _, _, _, .nil, b => b
  | _, _, _, _, .cons r t, b => .cons r (FdP.append t b)
theorem FdP.get {H : Hp} : ∀ {rs : List V} {ps : List (Int × V)} {i : Nat} {r : V}, FdP H rs ps → rs[i]? = some r → ∃ t q, ps[i]? = some t ∧ r = .ref q ∧ H q = some (.tup [.int t.1, t.2])
  | _, _, _, _, .nil, e => by simp at e
  | _, _, 0, _, .cons (b := t) ⟨q, e1, e2⟩ _, e => by simp at e; subst e; exact ⟨t, q, rfl, e1, e2⟩
  | _, _, i + 1, r, .cons _ t, e => by
    obtain ⟨u, q, h1, h2, h3⟩ := FdP.get (i := i) (r := r) t (by simpa using e)
    exact ⟨u, q, by simpa using h1, h2, h3⟩
theorem CutR.isO {ts : List (Int × Int)} {ws us : List V} {t : Nat} {y : V} (h : CutR ts ws t y us) : IsO y := by
  obtain ⟨v, e, _, _, c⟩ := h
  rcases c with ⟨_, rfl, _⟩ | ⟨b, g, _, rfl, _⟩
  · exact .inl rfl
  · exact .inr ⟨_, rfl⟩
theorem Trc.isO {ts : List (Int × Int)} {w0 us : List V} {f : List (Int × V)} (h : Trc ts w0 f us) : ∀ p ∈ f, IsO p.2 := by
  induction h with
  | nil => exact fun _ z => nomatch z
  | snoc _ c ih =>
    intro p hp
    rcases List.mem_append.mp hp with z | z
    · exact ih p z
    · rw [List.mem_singleton.mp z]
      exact c.isO
theorem CutR.pl {ts : List (Int × Int)} {os : List Int} {i : Nat} {ws us : List V} {t : Nat} {y : V} (h : CutR ts ws t y us) (pl : Pl3 os i ws) (hm : os[i]? = some (t : Int)) : Pl3 os (i + 1) us := by
  obtain ⟨v, e, _, _, c⟩ := h
  have tl := (List.getElem?_eq_some_iff.mp e).1
  rcases c with ⟨_, _, rfl⟩ | ⟨b, g, _, _, _, rfl, hb, g0, g1⟩
  · exact pl.cut1 hm tl
  · exact (pl.cut1 hm tl).kept hb (by omega) (by omega)
theorem Pl3.gone {os : List Int} {i : Nat} {ws : List V} (h : Pl3 os i ws) (all : ∀ t : Nat, t < ws.length → (t : Int) ∈ os.take i) {k : Int} (h2 : k ≠ 2) (h3 : k ≠ 3) : numsFrom k 0 ws = [] := List.eq_nil_iff_forall_not_mem.mpr fun m hm => by
  obtain ⟨m0, m1⟩ := nums_iff.mp hm
  have ml := (List.getElem?_eq_some_iff.mp m1).1
  rcases h.done m.toNat ml (all _ ml) with z | z
  · rw [m1] at z; exact h2 (V.int.inj (Option.some.inj z))
  · rw [m1] at z; exact h3 (V.int.inj (Option.some.inj z))
end FF
namespace FF
open PySem PySem.Spec PyProof.Rows L2
variable [LT]
def top (i : Nat) : Stmt := PySem.Challenge.pw_fewforests_k80_whole_cut_and_kept.main.body.getD i (.Pass ⟨0, 0, 0, 0⟩)
abbrev s_is_number : Stmt := top 1
abbrev s_leader_of : Stmt := top 2
abbrev s_join_points : Stmt := top 3
abbrev s_ringless : Stmt := top 8
abbrev s_is_tree : Stmt := top 10
abbrev s_law_mixed : Stmt := top 18
abbrev s_law_deck : Stmt := top 19
abbrev s_law_next : Stmt := top 20
abbrev s_law_tie : Stmt := top 21
abbrev s_law_tree : Stmt := top 22
abbrev s_law_heads : Stmt := top 23
abbrev s_law_is_int : Stmt := top 24
abbrev s_law_two_trees : Stmt := top 25
abbrev s_law_joins_all : Stmt := top 26
abbrev s_law_is_tree : Stmt := top 27
abbrev s_law_are_ties : Stmt := top 28
abbrev s_law_is_state : Stmt := top 29
abbrev s_law_is_true : Stmt := top 30
abbrev s_law_order : Stmt := top 31
abbrev s_law_is_stepped : Stmt := top 32
abbrev s_law_is_second : Stmt := top 33
abbrev s_law : Stmt := top 34

abbrev s_Match___init__ : Stmt := inClass (top 16) 0
abbrev s_Match_cut : Stmt := inClass (top 16) 1
abbrev s_Match_bridge_for : Stmt := inClass (top 16) 2
abbrev s_Match_numbers_at : Stmt := inClass (top 16) 3
abbrev s_Match_state : Stmt := inClass (top 16) 4
abbrev s_Match_cuts : Stmt := inClass (top 16) 5
abbrev s_Match_joined : Stmt := inClass (top 16) 6
/-! ### built-ins and constants of the text -/
structure Blt (mg : Str → Option Value) : Prop where
  b_ValueError : mg "ValueError" = none
  b_bool : mg "bool" = none
  b_enumerate : mg "enumerate" = none
  b_int : mg "int" = none
  b_isinstance : mg "isinstance" = none
  b_len : mg "len" = none
  b_list : mg "list" = none
  b_max : mg "max" = none
  b_min : mg "min" = none
  b_range : mg "range" = none
  b_reversed : mg "reversed" = none
  b_set : mg "set" = none
  b_sorted : mg "sorted" = none
  b_tuple : mg "tuple" = none
  c_ONE : ∃ t, mg "ONE" = some (.int 0 t)
  c_OTHER : ∃ t, mg "OTHER" = some (.int 1 t)
  c_KEPT : ∃ t, mg "KEPT" = some (.int 2 t)
  c_CUT : ∃ t, mg "CUT" = some (.int 3 t)
structure Ktx (K : PySem.W.Frag) (mg : Str → Option Value) : Prop where
  c_Match : Cls K (He.ga K "Match")
  g_Match : mg "Match" = some (.ref (He.ga K "Match"))
  n_Match_net : NoAttr K (He.ga K "Match") "net"
  n_Match_places : NoAttr K (He.ga K "Match") "places"
def Tabs (tb : List Addr) (H : Hp) : Prop := ∀ P ∈ tb, TabG H P
theorem Tabs.kx {tb : List Addr} {S : Addr → Prop} {H H1 : Hp} (h : Tabs tb H) (k : Kx S H H1) : Tabs tb H1 := fun P hP => k.tab P (h P hP)
theorem Tabs.dk {tb : List Addr} {p : Addr} {H H1 : Hp} (h : Tabs tb H) (k : Dk p H H1) : Tabs tb H1 := h.kx k.k
theorem Tabs.new {tb : List Addr} {p : Addr} {H : Hp} {o : HO} (h : Tabs tb H) (k : H p = none) : Tabs tb (upd H p o) := h.kx (S := fun _ => False) (Ke.new k)
abbrev nm_is_number : List Str := ["thing", "least", "most"]
theorem sc_is_number : FnScope nm_is_number ["thing", "least", "most"] (defScope s_is_number) := ⟨rfl, rfl, rfl, by decide +kernel, rfl, by decide +kernel, by decide +kernel⟩
/-! ### is_number -/
def sp_is_number (_ : PySem.W.Frag) (_ : List Addr) : Sp := fun vs H Q _ => ∃ (v : V) (lo hi : Int) (n : String), vs = [v, .int lo, .int hi] ∧ TyN H v n ∧ Q (.bl (isNum v lo hi)) H
abbrev nm_leader_of : List Str := ["leaders", "point"]
theorem sc_leader_of : FnScope nm_leader_of ["leaders", "point"] (defScope s_leader_of) := ⟨rfl, rfl, rfl, by decide +kernel, rfl, by decide +kernel, by decide +kernel⟩
/-! ### leader_of -/
def sp_leader_of (_ : PySem.W.Frag) (_ : List Addr) : Sp := fun vs H Q _ => ∃ (p : Addr) (ls : List Int) (n : Int) (r : Int → Int) (d : Int → Nat) (x : Int), vs = [.ref p, .int x] ∧ H p = some (.lst (ls.map V.int)) ∧ UF n ls r d ∧ 0 ≤ x ∧ x < n ∧
  ∀ ls', UF n ls' r d → Q (.int (r x)) (upd H p (.lst (ls'.map V.int)))
abbrev nm_join_points : List Str := ["leaders", "a", "b", "first", "second"]
theorem sc_join_points : FnScope nm_join_points ["leaders", "a", "b"] (defScope s_join_points) := ⟨rfl, rfl, rfl, by decide +kernel, rfl, by decide +kernel, by decide +kernel⟩
/-! ### join_points -/
def sp_join_points (_ : PySem.W.Frag) (_ : List Addr) : Sp := fun vs H Q _ => ∃ (p : Addr) (ls : List Int) (n : Int) (r : Int → Int) (d : Int → Nat) (a b : Int), vs = [.ref p, .int a, .int b] ∧ H p = some (.lst (ls.map V.int)) ∧ UF n ls r d ∧ 0 ≤ a ∧ a < n ∧ 0 ≤ b ∧ b < n ∧
  ∀ ls' d', UF n ls' (rstep r (a, b)) d' → Q (.bl (!decide (r a = r b))) (upd H p (.lst (ls'.map V.int)))
abbrev nm_ringless : List Str := ["web", "ties", "leaders", "number", "a", "b"]
theorem sc_ringless : FnScope nm_ringless ["web", "ties"] (defScope s_ringless) := ⟨rfl, rfl, rfl, by decide +kernel, rfl, by decide +kernel, by decide +kernel⟩
/-! ### ringless -/
def sp_ringless (_ : PySem.W.Frag) (_ : List Addr) : Sp := fun vs H Q _ => ∃ (v : V) (n : Int) (ts : List (Int × Int)) (u : Addr) (ms : List Int), vs = [v, .ref u] ∧ Web H v n ts ∧ (H u = some (.lst (ms.map V.int)) ∨ H u = some (.tup (ms.map V.int))) ∧ TOk n ts ∧ 0 ≤ n ∧ n ≤ 1000 ∧ (∀ m ∈ ms, 0 ≤ m ∧ m < ts.length) ∧
  ∀ H', Ke H H' → Q (.bl (ringlessF (fun x => x) (pick ts ms))) H'
abbrev nm_is_tree : List Str := ["web", "numbers"]
theorem sc_is_tree : FnScope nm_is_tree ["web", "numbers"] (defScope s_is_tree) := ⟨rfl, rfl, rfl, by decide +kernel, rfl, by decide +kernel, by decide +kernel⟩
/-! ### is_tree -/
def sp_is_tree (_ : PySem.W.Frag) (tb : List Addr) : Sp := fun vs H Q _ => ∃ (v : V) (n : Int) (ts : List (Int × Int)) (u : Addr) (ns : List Int), vs = [v, .ref u] ∧ Web H v n ts ∧ TOk n ts ∧ 1 ≤ n ∧ n ≤ 60 ∧ H u = some (.tup (ns.map V.int)) ∧ (∀ m ∈ ns, 0 ≤ m ∧ m < (ts.length : Int)) ∧ ns.length ≤ 1000 ∧
  ∀ H', Ke H H' → Q (.bl (decide ((ns.length : Int) = n - 1) && ringlessF (fun x => x) (pick ts ns))) H'
abbrev nm__law_mixed : List Str := ["_law_cell", "_law_k", "_law_number"]
theorem sc__law_mixed : FnScope nm__law_mixed ["_law_cell", "_law_k"] (defScope s_law_mixed) := ⟨rfl, rfl, rfl, by decide +kernel, rfl, by decide +kernel, by decide +kernel⟩
/-! ### _law_mixed -/
def sp__law_mixed (_ : PySem.W.Frag) (_ : List Addr) : Sp := fun vs H Q _ => ∃ c k : Int, vs = [.int c, .int k] ∧ 0 ≤ k ∧ k < 1000000 ∧ ∀ r : Int, 0 ≤ r → Q (.int r) H
abbrev nm__law_deck : List Str := ["_law_script", "_law_many", "_law_own", "_law_cell", "_law_rest", "_law_deck_here", "_law_k", "_law_at"]
theorem sc__law_deck : FnScope nm__law_deck ["_law_script", "_law_many"] (defScope s_law_deck) := ⟨rfl, rfl, rfl, by decide +kernel, rfl, by decide +kernel, by decide +kernel⟩
/-! ### _law_deck -/
def sp__law_deck (K : PySem.W.Frag) (_ : List Addr) : Sp := fun vs H Q _ => ∃ (a : Addr) (ns : List Int) (n : Int), vs = [.ref a, .int n] ∧ SqL K H a (ns.map V.int) ∧ ns.length ≤ 63 ∧ 0 ≤ n ∧ n ≤ 5000 ∧
  ∀ p H', H p = none → Ke H H' → Deck H' p → Q (.ref p) H'
abbrev nm__law_next : List Str := ["_law_deck_here"]
theorem sc__law_next : FnScope nm__law_next ["_law_deck_here"] (defScope s_law_next) := ⟨rfl, rfl, rfl, by decide +kernel, rfl, by decide +kernel, by decide +kernel⟩
/-! ### _law_next -/
def sp__law_next (_ : PySem.W.Frag) (_ : List Addr) : Sp := fun vs H Q _ => ∃ p : Addr, vs = [.ref p] ∧ Deck H p ∧ ∀ (r : Int) (H' : Hp), 0 ≤ r → r < 1000 → Dk p H H' → Q (.int r) H'
abbrev nm__law_tie : List Str := ["_law_deck_here", "_law_points", "_law_a", "_law_b"]
theorem sc__law_tie : FnScope nm__law_tie ["_law_deck_here", "_law_points"] (defScope s_law_tie) := ⟨rfl, rfl, rfl, by decide +kernel, rfl, by decide +kernel, by decide +kernel⟩
/-! ### _law_tie -/
def sp__law_tie (_ : PySem.W.Frag) (_ : List Addr) : Sp := fun vs H Q _ => ∃ (p : Addr) (n : Int), vs = [.ref p, .int n] ∧ Deck H p ∧ 2 ≤ n ∧
  ∀ (a b : Int) (t : Addr) (H1 : Hp), 0 ≤ a → a < b → b < n → Dk p H H1 → H1 t = none → Q (.ref t) (upd H1 t (.tup [.int a, .int b]))
abbrev nm__law_tree : List Str := ["_law_deck_here", "_law_points", "_law_k"]
theorem sc__law_tree : FnScope nm__law_tree ["_law_deck_here", "_law_points"] (defScope s_law_tree) := ⟨rfl, rfl, rfl, by decide +kernel, rfl, by decide +kernel, by decide +kernel⟩
/-! ### _law_tree -/
def sp__law_tree (_ : PySem.W.Frag) (_ : List Addr) : Sp := fun vs H Q _ => ∃ (p : Addr) (n : Int), vs = [.ref p, .int n] ∧ Deck H p ∧ 1 ≤ n ∧ n ≤ 1000 ∧
  ∀ (H' : Hp) (l : Addr) (ts : List (Int × Int)), Dk p H H' → H l = none → TL H' l ts → (ts.length : Int) = n - 1 → TOk n ts → ringlessF (fun x => x) ts = true → Q (.ref l) H'
abbrev nm__law_heads : List Str := ["_law_points", "_law_ties", "_law_found", "_law_a", "_law_b", "_law_one", "_law_other", "_law_head"]
theorem sc__law_heads : FnScope nm__law_heads ["_law_points", "_law_ties"] (defScope s_law_heads) := ⟨rfl, rfl, rfl, by decide +kernel, rfl, by decide +kernel, by decide +kernel⟩
/-! ### _law_heads -/
def sp__law_heads (_ : PySem.W.Frag) (_ : List Addr) : Sp := fun vs H Q _ => ∃ (n : Int) (u : Addr) (rs : List V) (ts : List (Int × Int)), vs = [.int n, .ref u] ∧ H u = some (.lst rs) ∧ Ties H rs ts ∧ TOk n ts ∧ 0 ≤ n ∧ n ≤ 1000 ∧
  ∀ l H', Ke H H' → H' l = some (.lst ((headsF (upTo n) ts).map V.int)) → Q (.ref l) H'
abbrev nm__law_is_int : List Str := ["_law_thing", "_law_least", "_law_most"]
theorem sc__law_is_int : FnScope nm__law_is_int ["_law_thing", "_law_least", "_law_most"] (defScope s_law_is_int) := ⟨rfl, rfl, rfl, by decide +kernel, rfl, by decide +kernel, by decide +kernel⟩
/-! ### _law_is_int -/
def sp__law_is_int (_ : PySem.W.Frag) (_ : List Addr) : Sp := fun vs H Q _ => ∃ (v : V) (lo hi : Int) (n : String), vs = [v, .int lo, .int hi] ∧ TyN H v n ∧ Q (.bl (isNum v lo hi)) H
abbrev nm__law_two_trees : List Str := ["_law_deck_here", "_law_points", "_law_more", "_law_one", "_law_other", "_law_k", "_law_rest", "_law_tie_here", "_law_marked", "_law_turn", "_law_own"]
theorem sc__law_two_trees : FnScope nm__law_two_trees ["_law_deck_here", "_law_points", "_law_more"] (defScope s_law_two_trees) := ⟨rfl, rfl, rfl, by decide +kernel, rfl, by decide +kernel, by decide +kernel⟩
/-! ### _law_two_trees -/
def sp__law_two_trees (_ : PySem.W.Frag) (_ : List Addr) : Sp := fun vs H Q _ => ∃ (p : Addr) (M m : Int), vs = [.ref p, .int M, .int m] ∧ Deck H p ∧ 1 ≤ M ∧ M ≤ 20 ∧ 0 ≤ m ∧ m ≤ 10 ∧
  ∀ (H' : Hp) (x v u : Addr) (ts : List (Int × Int)) (ws : List V), Dk p H H' → H' x = some (.tup [.ref v, .ref u]) → Web H' (.ref v) M ts → (ts.length : Int) ≤ 2 * M + m → H' u = some (.tup ws) → Stood M ts 2 ws → Q (.ref x) H'
abbrev nm__law_joins_all : List Str := ["_law_web", "_law_ties", "_law_tie_here"]
theorem sc__law_joins_all : FnScope nm__law_joins_all ["_law_web", "_law_ties"] (defScope s_law_joins_all) := ⟨rfl, rfl, rfl, by decide +kernel, rfl, by decide +kernel, by decide +kernel⟩
/-! ### _law_joins_all -/
def sp__law_joins_all (_ : PySem.W.Frag) (_ : List Addr) : Sp := fun vs H Q _ => ∃ (v : V) (n : Int) (ts : List (Int × Int)) (u : Addr) (ns : List Int), vs = [v, .ref u] ∧ Web H v n ts ∧ TOk n ts ∧ 1 ≤ n ∧ n ≤ 60 ∧ H u = some (.tup (ns.map V.int)) ∧ (∀ m ∈ ns, 0 ≤ m ∧ m < (ts.length : Int)) ∧ ns.length ≤ 1000 ∧
  ∀ H', Ke H H' → Q (.bl (decide ((nub (headsF (upTo n) (pick ts ns))).length = 1))) H'
abbrev nm__law_is_tree : List Str := ["_law_web", "_law_ties"]
theorem sc__law_is_tree : FnScope nm__law_is_tree ["_law_web", "_law_ties"] (defScope s_law_is_tree) := ⟨rfl, rfl, rfl, by decide +kernel, rfl, by decide +kernel, by decide +kernel⟩
/-! ### _law_is_tree -/
def sp__law_is_tree (_ : PySem.W.Frag) (_ : List Addr) : Sp := fun vs H Q _ => ∃ (v : V) (n : Int) (ts : List (Int × Int)) (u : Addr) (ns : List Int), vs = [v, .ref u] ∧ Web H v n ts ∧ TOk n ts ∧ 1 ≤ n ∧ n ≤ 60 ∧ H u = some (.tup (ns.map V.int)) ∧ (∀ m ∈ ns, 0 ≤ m ∧ m < (ts.length : Int)) ∧ ns.length ≤ 1000 ∧ Fo ts ns ∧ (ns.length : Int) = n - 1 ∧
  ∀ H', Ke H H' → Q (.bl true) H'
abbrev nm__law_are_ties : List Str := ["_law_web", "_law_thing", "_law_tie_here"]
theorem sc__law_are_ties : FnScope nm__law_are_ties ["_law_web", "_law_thing"] (defScope s_law_are_ties) := ⟨rfl, rfl, rfl, by decide +kernel, rfl, by decide +kernel, by decide +kernel⟩
/-! ### _law_are_ties -/
def sp__law_are_ties (_ : PySem.W.Frag) (_ : List Addr) : Sp := fun vs H Q _ => ∃ (v : V) (n : Int) (ts : List (Int × Int)) (u : Addr) (ns : List Int), vs = [v, .ref u] ∧ Web H v n ts ∧ H u = some (.tup (ns.map V.int)) ∧ (∀ m ∈ ns, 0 ≤ m ∧ m < (ts.length : Int)) ∧ ns.Pairwise (· < ·) ∧ ns.length ≤ 1000 ∧
  ∀ H', Ke H H' → Q (.bl true) H'
abbrev nm__law_is_state : List Str := ["_law_web", "_law_cuts", "_law_thing", "_law_ties", "_law_kept", "_law_one", "_law_other", "_law_every"]
theorem sc__law_is_state : FnScope nm__law_is_state ["_law_web", "_law_cuts", "_law_thing"] (defScope s_law_is_state) := ⟨rfl, rfl, rfl, by decide +kernel, rfl, by decide +kernel, by decide +kernel⟩
/-! ### _law_is_state -/
def sp__law_is_state (_ : PySem.W.Frag) (_ : List Addr) : Sp := fun vs H Q _ => ∃ (v : V) (n : Int) (ts : List (Int × Int)) (ws : List V) (cu th ka oa pa : Addr), vs = [v, .ref cu, .ref th] ∧ Web H v n ts ∧ TOk n ts ∧ 1 ≤ n ∧ n ≤ 60 ∧ ws.length = ts.length ∧ ts.length ≤ 120 ∧ MatchOk n ts ws ∧
  H cu = some (.tup ((numsFrom 3 0 ws).map V.int)) ∧ H th = some (.tup [.ref ka, .ref oa, .ref pa]) ∧ H ka = some (.tup ((numsFrom 2 0 ws).map V.int)) ∧ H oa = some (.tup ((numsFrom 0 0 ws).map V.int)) ∧ H pa = some (.tup ((numsFrom 1 0 ws).map V.int)) ∧
  ∀ H', Ke H H' → Q (.bl true) H'
abbrev nm__law_is_true : List Str := ["_law_found", "_law_due"]
theorem sc__law_is_true : FnScope nm__law_is_true ["_law_found", "_law_due"] (defScope s_law_is_true) := ⟨rfl, rfl, rfl, by decide +kernel, rfl, by decide +kernel, by decide +kernel⟩
/-! ### _law_is_true -/
def sp__law_is_true (_ : PySem.W.Frag) (_ : List Addr) : Sp := fun vs H Q _ => ∃ a b : Bool, vs = [.bl a, .bl b] ∧ Q (.bl (decide (a = b))) H
abbrev nm__law_order : List Str := ["_law_deck_here", "_law_web", "_law_trees", "_law_rest", "_law_found", "_law_number", "_law_sort", "_law_point", "_law_tie_here"]
theorem sc__law_order : FnScope nm__law_order ["_law_deck_here", "_law_web", "_law_trees"] (defScope s_law_order) := ⟨rfl, rfl, rfl, by decide +kernel, rfl, by decide +kernel, by decide +kernel⟩
/-! ### _law_order -/
def sp__law_order (_ : PySem.W.Frag) (_ : List Addr) : Sp := fun vs H Q _ => ∃ (p : Addr) (v : V) (n : Int) (ts : List (Int × Int)) (u : Addr) (ws : List V), vs = [.ref p, v, .ref u] ∧ Deck H p ∧ Web H v n ts ∧ 1 ≤ n ∧ ts.length ≤ 120 ∧ H u = some (.tup ws) ∧ ws.length = ts.length ∧ (∀ z ∈ ws, IsO z) ∧
  ∀ (H' : Hp) (l : Addr) (os : List Int), Dk p H H' → H l = none → H' l = some (.lst (os.map V.int)) → os.Perm (upTo (ts.length : Int)) → Q (.ref l) H'
abbrev nm_Match_numbers_at : List Str := ["self", "place"]
theorem sc_Match_numbers_at : FnScope nm_Match_numbers_at ["self", "place"] (defScope s_Match_numbers_at) := ⟨rfl, rfl, rfl, by decide +kernel, rfl, by decide +kernel, by decide +kernel⟩
theorem gnd_Match_numbers_at_0 : (["place", "number", "here"] : List Str).Nodup := by decide +kernel
/-! ### Match_numbers_at -/
def sp_Match_numbers_at (K : PySem.W.Frag) (tb : List Addr) : Sp := fun vs H Q _ => ∃ (x lp : Addr) (n : Int) (ts : List (Int × Int)) (ws : List V) (g : Int), vs = [.ref x, .int g] ∧ Mtc K H x lp n ts ws ∧ Tabs tb H ∧
  ∀ (H' : Hp) (p : Addr), Ke H H' → H p = none → H' p = some (.tup ((numsFrom g 0 ws).map V.int)) → Q (.ref p) H'
abbrev nm_Match_state : List Str := ["self"]
theorem sc_Match_state : FnScope nm_Match_state ["self"] (defScope s_Match_state) := ⟨rfl, rfl, rfl, by decide +kernel, rfl, by decide +kernel, by decide +kernel⟩
/-! ### Match_state -/
def sp_Match_state (K : PySem.W.Frag) (tb : List Addr) : Sp := fun vs H Q _ => ∃ (x lp : Addr) (n : Int) (ts : List (Int × Int)) (ws : List V), vs = [.ref x] ∧ Mtc K H x lp n ts ws ∧ Tabs tb H ∧
  ∀ (H' : Hp) (p a b c : Addr), Ke H H' → H p = none → H' p = some (.tup [.ref a, .ref b, .ref c]) → H' a = some (.tup ((numsFrom 2 0 ws).map V.int)) → H' b = some (.tup ((numsFrom 0 0 ws).map V.int)) → H' c = some (.tup ((numsFrom 1 0 ws).map V.int)) → Q (.ref p) H'
abbrev nm_Match_cuts : List Str := ["self"]
theorem sc_Match_cuts : FnScope nm_Match_cuts ["self"] (defScope s_Match_cuts) := ⟨rfl, rfl, rfl, by decide +kernel, rfl, by decide +kernel, by decide +kernel⟩
/-! ### Match_cuts -/
def sp_Match_cuts (K : PySem.W.Frag) (tb : List Addr) : Sp := fun vs H Q _ => ∃ (x lp : Addr) (n : Int) (ts : List (Int × Int)) (ws : List V), vs = [.ref x] ∧ Mtc K H x lp n ts ws ∧ Tabs tb H ∧
  ∀ (H' : Hp) (p : Addr), Ke H H' → H p = none → H' p = some (.tup ((numsFrom 3 0 ws).map V.int)) → Q (.ref p) H'
abbrev nm_Match_joined : List Str := ["self"]
theorem sc_Match_joined : FnScope nm_Match_joined ["self"] (defScope s_Match_joined) := ⟨rfl, rfl, rfl, by decide +kernel, rfl, by decide +kernel, by decide +kernel⟩
/-! ### Match_joined -/
def sp_Match_joined (K : PySem.W.Frag) (tb : List Addr) : Sp := fun vs H Q _ => ∃ (x lp : Addr) (n : Int) (ts : List (Int × Int)) (ws : List V), vs = [.ref x] ∧ Mtc K H x lp n ts ws ∧ Tabs tb H ∧
  ∀ (H' : Hp), Ke H H' → Q (.bl (decide (((numsFrom 2 0 ws).length : Int) = n - 1) && ringlessF (fun x => x) (layerOf ts ws 2))) H'
abbrev nm__law_is_stepped : List Str := ["_law_web", "_law_match", "_law_ahead", "_law_tie_here", "_law_told", "_law_cuts", "_law_state", "_law_giver", "_law_ties", "_law_own", "_law_left"]
theorem sc__law_is_stepped : FnScope nm__law_is_stepped ["_law_web", "_law_match", "_law_ahead", "_law_tie_here", "_law_told", "_law_cuts"] (defScope s_law_is_stepped) := ⟨rfl, rfl, rfl, by decide +kernel, rfl, by decide +kernel, by decide +kernel⟩
def csc__law_is_stepped_13_16 : Scope := { kind := .function, names := [(".0", .local), ("_law_ties", .local), ("tuple", .globalImplicit), ("_law_tie_here", .free), ("_law_told", .free)], isGenerator := false, isCoroutine := false, more := [] }
/-! ### _law_is_stepped -/
def sp__law_is_stepped (K : PySem.W.Frag) (tb : List Addr) : Sp := fun vs H Q _ => ∃ (v : V) (x lp : Addr) (n : Int) (ts : List (Int × Int)) (ws us : List V) (ah ka oa pa cu : Addr) (t : Nat) (y : V), vs = [v, .ref x, .ref ah, .int (t : Int), y, .ref cu] ∧ Web H v n ts ∧ Mtc K H x lp n ts us ∧ MatchOk n ts us ∧ MatchOk n ts ws ∧ CutR ts ws t y us ∧ H ah = some (.tup [.ref ka, .ref oa, .ref pa]) ∧ H ka = some (.tup ((numsFrom 2 0 ws).map V.int)) ∧ H oa = some (.tup ((numsFrom 0 0 ws).map V.int)) ∧ H pa = some (.tup ((numsFrom 1 0 ws).map V.int)) ∧ H cu = some (.tup ((numsFrom 3 0 us).map V.int)) ∧ Tabs tb H ∧
  ∀ H', Ke H H' → Q (.bl true) H'
abbrev nm_Match_bridge_for : List Str := ["self", "place", "leaders", "number", "a", "b"]
theorem sc_Match_bridge_for : FnScope nm_Match_bridge_for ["self", "place"] (defScope s_Match_bridge_for) := ⟨rfl, rfl, rfl, by decide +kernel, rfl, by decide +kernel, by decide +kernel⟩
/-! ### Match_bridge_for -/
def sp_Match_bridge_for (K : PySem.W.Frag) (tb : List Addr) : Sp := fun vs H Q _ => ∃ (x lp : Addr) (n : Int) (ts : List (Int × Int)) (ws : List V) (g : Int), vs = [.ref x, .int g] ∧ Mtc K H x lp n ts ws ∧ 0 ≤ g ∧ g ≤ 1 ∧ (∃ b ∈ numsFrom (1 - g) 0 ws, ¬ jn ts (numsFrom 2 0 ws ++ numsFrom g 0 ws) (tk ts b).1 (tk ts b).2) ∧ Tabs tb H ∧
  ∀ (H' : Hp) (b : Int), Ke H H' → brF ts ws g = some b → b ∈ numsFrom (1 - g) 0 ws → ¬ jn ts (numsFrom 2 0 ws ++ numsFrom g 0 ws) (tk ts b).1 (tk ts b).2 → Q (.int b) H'
abbrev nm_Match_cut : List Str := ["self", "tie", "place", "bridge"]
theorem sc_Match_cut : FnScope nm_Match_cut ["self", "tie"] (defScope s_Match_cut) := ⟨rfl, rfl, rfl, by decide +kernel, rfl, by decide +kernel, by decide +kernel⟩
/-! ### Match_cut -/
def sp_Match_cut (K : PySem.W.Frag) (tb : List Addr) : Sp := fun vs H Q _ => ∃ (x lp : Addr) (n : Int) (ts : List (Int × Int)) (ws : List V) (t : Nat) (v : V), vs = [.ref x, .int (t : Int)] ∧ Mtc K H x lp n ts ws ∧ MatchOk n ts ws ∧ ws[t]? = some v ∧ v ≠ .int 2 ∧ v ≠ .int 3 ∧ Tabs tb H ∧
  ∀ (H' : Hp) (y : V) (us : List V), Kx (fun b => b = lp) H H' → Mtc K H' x lp n ts us → MatchOk n ts us → CutR ts ws t y us → Q y H'
abbrev nm__law_is_second : List Str := ["_law_deck_here", "_law_web", "_law_second", "_law_tie_here", "_law_cuts", "_law_ahead", "_law_told"]
theorem sc__law_is_second : FnScope nm__law_is_second ["_law_deck_here", "_law_web", "_law_second"] (defScope s_law_is_second) := ⟨rfl, rfl, rfl, by decide +kernel, rfl, by decide +kernel, by decide +kernel⟩
/-! ### _law_is_second -/
def sp__law_is_second (K : PySem.W.Frag) (tb : List Addr) : Sp := fun vs H Q _ => ∃ (p : Addr) (v : V) (x lp : Addr) (n : Int) (ts : List (Int × Int)) (ws : List V), vs = [.ref p, v, .ref x] ∧ Deck H p ∧ p ≠ lp ∧ Web H v n ts ∧ 0 < ts.length ∧ Mtc K H x lp n ts ws ∧ MatchOk n ts ws ∧ Tabs tb H ∧
  ∀ (H' : Hp) (us : List V), Kx (fun b => b = p ∨ b = lp) H H' → Deck H' p → Mtc K H' x lp n ts us → MatchOk n ts us → Q (.bl true) H'
abbrev nm_Match___init__ : List Str := ["self", "web", "trees"]
theorem sc_Match___init__ : FnScope nm_Match___init__ ["self", "web", "trees"] (defScope s_Match___init__) := ⟨rfl, rfl, rfl, by decide +kernel, rfl, by decide +kernel, by decide +kernel⟩
/-! ### Match___init__ -/
def sp_Match___init__ (K : PySem.W.Frag) (_ : List Addr) : Sp := fun vs H Q _ => ∃ (x dx : Addr) (n : Int) (ts : List (Int × Int)) (v : V) (u : Addr) (ws : List V), vs = [.ref x, v, .ref u] ∧ H x = some (.ins (He.ga K "Match") dx []) ∧ Web H v n ts ∧ H u = some (.tup ws) ∧ TOk n ts ∧ ws.length = ts.length ∧ (∀ z ∈ ws, IsO z) ∧ 1 ≤ n ∧ n ≤ 60 ∧ ts.length ≤ 120 ∧
  ∀ H' lp, Kx (fun b => b = x) H H' → H lp = none → Mtc K H' x lp n ts ws → Q .non H'
abbrev nm_law : List Str := ["_law_script", "_law_deck_here", "_law_turn", "_law_web", "_law_trees", "_law_match", "_law_own", "_law_second", "_law_cuts", "_law_found", "_law_tie_here", "_law_ahead", "_law_told", "_law_third", "_law_kept", "_law_again"]
theorem sc_law : FnScope nm_law ["_law_script"] (defScope s_law) := ⟨rfl, rfl, rfl, by decide +kernel, rfl, by decide +kernel, by decide +kernel⟩
/-! ### law -/
def sp_law (K : PySem.W.Frag) (tb : List Addr) : Sp := fun vs H Q _ => ∃ (a : Addr) (ns : List Int), vs = [.ref a] ∧ SqL K H a (ns.map V.int) ∧ ns.length ≤ 63 ∧ Tabs tb H ∧ ∀ H', Q (.bl true) H'
theorem law_start {K : PySem.W.Frag} {tb : List Addr} {H : Hp} {a : Addr} {ns : List Int} (hl : ns.length ≤ 63) (_ : ∀ z ∈ ns, Builtin.Int.intBits z ≤ 1048576) (hT : Tabs tb H) (hS : SqL K H a (ns.map V.int)) : sp_law K tb [.ref a] H (fun v _ => v = .bl true) (fun _ _ _ => False) :=
  ⟨a, ns, rfl, hS, hl, hT, fun _ => rfl⟩
end FF
namespace FF
open PySem PySem.Spec PyProof.Rows L2
variable [LT]
theorem ok_is_number {P : Program} {w : World} {K : PySem.W.Frag} {mg : Str → Option Value} {base : Heap} {tb : List Addr} {f : Addr} {fd : FuncData} (T : Blt mg) (D_is_number : DefAt K mg "is_number" s_is_number ["thing", "least", "most"] f fd) (CT : Ktx K mg) :
    FnOk P w K mg base CX0 1 f fd ["thing", "least", "most"] (sp_is_number K tb) := by
  refine D_is_number.ok sc_is_number (fun vs H Q E h => by
    obtain ⟨v, lo, hi, n, rfl, hv, q⟩ := h
    all_goals rfl) fun A outer s H vs Q E hr h => ?_
  obtain ⟨v, lo, hi, n, rfl, hv, q⟩ := h
  refine ⟨_, pss_cons (ps_if (PW.pt (pw_or (pt_not (pt_val (pe_callB (isiK (K := K)) (by rfl) T.b_isinstance (by decide +kernel) (pa_cons (pv 0) (pa_cons (pe_bltn (v := .ty "int") (u := .type "int") (by rfl) T.b_int (by decide +kernel) rfl) pa_nil))))) (pw_or1 (pt_val (pe_callB (isiK (K := K)) (by rfl) T.b_isinstance (by decide +kernel) (pa_cons (pv 0) (pa_cons (pe_bltn (v := .ty "bool") (u := .type "bool") (by rfl) T.b_bool (by decide +kernel) rfl) pa_nil)))))))
     (pss_one (ps_ret (pe_bl)))
     (pss_nil))
     (pss_one (ps_ret (pe_chain op_le op_le (pv 1) (pv 0) (pv 2)))), ?_⟩
  refine ⟨_, rfl, v, _, _, _, _, rfl, .ty _, hv.x, hv.isi (.inl rfl), _, rfl, ?_⟩
  cases hv with
  | int i =>
    refine iteF ⟨_, rfl, _, _, _, _, false, rfl, .ty _, (TyN.int i).x, (TyN.int (H := H) i).isi (.inr (.inl rfl)), false, rfl, iteF ?_⟩
    refine ⟨_, rfl, _, rfl, _, _, rfl, rfl, _, rfl, iteB (fun e => ⟨_, rfl, _, _, rfl, rfl, ?_⟩) (fun e => ?_)⟩
    · have z : isNum (.int i) lo hi = decide (i ≤ hi) := by show (decide (lo ≤ i) && decide (i ≤ hi)) = _; rw [e, Bool.true_and]
      rw [z] at q
      exact q
    · have z : isNum (.int i) lo hi = false := by show (decide (lo ≤ i) && decide (i ≤ hi)) = _; rw [e, Bool.false_and]
      rw [z] at q
      exact q
  | bl b => exact iteF ⟨_, rfl, _, _, _, _, true, rfl, .ty _, (TyN.bl b).x, (TyN.bl (H := H) b).isi (.inr (.inl rfl)), true, rfl, iteT q⟩
  | non => exact iteT (iteT q)
  | str x => exact iteT (iteT q)
  | lst h => exact iteT (iteT q)
  | tup h => exact iteT (iteT q)
  | dic h => exact iteT (iteT q)
theorem ok_leader_of {P : Program} {w : World} {K : PySem.W.Frag} {mg : Str → Option Value} {base : Heap} {tb : List Addr} {f : Addr} {fd : FuncData} (T : Blt mg) (D_leader_of : DefAt K mg "leader_of" s_leader_of ["leaders", "point"] f fd) (CT : Ktx K mg) :
    FnOk P w K mg base CX0 1 f fd ["leaders", "point"] (sp_leader_of K tb) := by
  refine D_leader_of.ok sc_leader_of (fun vs H Q E h => by
    obtain ⟨p, ls, n, r, d, x, rfl, hp, u, x0, x1, q⟩ := h
    all_goals rfl) fun A outer s H vs Q E hr h => ?_
  obtain ⟨p, ls, n, r, d, x, rfl, hp, u, x0, x1, q⟩ := h
  refine ⟨_, pss_cons (ps_while PassesOwn.never (pt_cmpR op_ne (pe_ix (ix_listK (K := K)) (pv 0) (pv 1) (fun _ _ => rfl)) (pv 1) (nomark _))
     (pss_cons (ps_asg (pe_ix (ix_listK (K := K)) (pv 0) (pe_ix (ix_listK (K := K)) (pv 0) (pv 1) (fun _ _ => rfl)) (fun _ _ => rfl)) (pg_sub (pv 0) (pv 1) set_list))
     (pss_one (ps_set (i := 1) sc_leader_of.nd rfl (.inl rfl) (pe_ix (ix_listK (K := K)) (pv 0) (pv 1) (fun _ _ => rfl))))))
     (pss_one (ps_ret (pv 1))), ?_⟩
  refine while_by (fun σ G => ∃ (y : Int) (ls' : List Int), σ = [some (.ref p), some (.int y)] ∧ G = upd H p (.lst (ls'.map V.int)) ∧ UF n ls' r d ∧ 0 ≤ y ∧ y < n ∧ r y = r x) (fun σ _ => match σ with | [_, some (.int y)] => d y | _ => 0) ?_ (fun σ G hG => ?_) ?_
  · exact ⟨x, ls, rfl, (upd_id hp).symm, u, x0, x1, rfl⟩
  · obtain ⟨y, ls', rfl, rfl, u', y0, y1, hr⟩ := hG
    have hl := u'.len
    obtain ⟨z0, z1⟩ := u'.rng y y0 y1
    obtain ⟨w0, w1⟩ := u'.rng _ z0 z1
    refine ⟨_, rfl, _, rfl, p, _, _, _, rfl, rfl, sqL_of upd_same, hat_at y0 (by omega), _, rfl, rfl, _, rfl, iteB (fun e => ?_) (fun e => ?_)⟩
    · have hne : hat ls' y ≠ y := fun z => by
        have e : (!decide (V.int (hat ls' y) = V.int y)) = true := e
        rw [z, decide_eq_true rfl] at e
        cases e
      have u2 := u'.half y0 y1 hne
      have hs : hat (ls'.set y.toNat (hat ls' (hat ls' y))) y = hat ls' (hat ls' y) := by rw [hat_set y0 (by omega) y0, if_pos rfl]
      have hdd : d (hat ls' (hat ls' y)) < d y := by
        have h1 := u'.down y y0 y1 hne
        by_cases e : hat ls' (hat ls' y) = hat ls' y
        · rw [e]; exact h1
        · have := u'.down _ z0 z1 e
          omega
      refine ⟨_, rfl, _, rfl, _, rfl, p, _, _, _, rfl, rfl, sqL_of upd_same, hat_at y0 (by omega), p, _, _, _, rfl, rfl, sqL_of upd_same, hat_at z0 (by omega), _, rfl, _, rfl, p, _, _, _, rfl, rfl, upd_same, ix_in y0 (by rw [List.length_map]; omega), ?_⟩
      rw [upd_upd, ← List.map_set]
      refine ⟨_, rfl, _, rfl, p, _, _, _, rfl, rfl, sqL_of upd_same, hat_at y0 (by rw [List.length_set]; omega), ?_⟩
      rw [hs]
      exact ⟨⟨_, _, rfl, rfl, u2, w0, w1, (u'.root _ z0 z1).trans ((u'.root y y0 y1).trans hr)⟩, hdd⟩
    · have he : hat ls' y = y := by
        by_cases z : hat ls' y = y
        · exact z
        · have e : (!decide (V.int (hat ls' y) = V.int y)) = false := e
          rw [decide_eq_false fun q => z (V.int.inj q)] at e
          cases e
      have q1 := q ls' u'
      rw [← hr, u'.top y y0 y1 he] at q1
      exact ⟨_, rfl, q1⟩
  · rintro σ G Q1 Q2 hQ ⟨a, ha, b, hb, p1, xs, i, v, e1, e2, hs, hv, c, hc, hsc, k, hk, hq⟩
    exact ⟨a, ha, b, hb, p1, xs, i, v, e1, e2, hs, hv, c, hc, hsc, k, hk, hQ _ _ hq⟩
theorem ok_join_points {P : Program} {w : World} {K : PySem.W.Frag} {mg : Str → Option Value} {base : Heap} {tb : List Addr} {f : Addr} {fd : FuncData} {f_leader_of : Addr} {fd_leader_of : FuncData} (T : Blt mg) (D_join_points : DefAt K mg "join_points" s_join_points ["leaders", "a", "b"] f fd) (CT : Ktx K mg) (D_leader_of : DefAt K mg "leader_of" s_leader_of ["leaders", "point"] f_leader_of fd_leader_of) (G_leader_of : FnOk P w K mg base CX0 1 f_leader_of fd_leader_of ["leaders", "point"] (sp_leader_of K tb)) :
    FnOk P w K mg base CX0 2 f fd ["leaders", "a", "b"] (sp_join_points K tb) := by
  refine D_join_points.ok sc_join_points (fun vs H Q E h => by
    obtain ⟨p, ls, n, r, d, a, b, rfl, hp, u, a0, a1, b0, b1, q⟩ := h
    all_goals rfl) fun A outer s H vs Q E hr h => ?_
  obtain ⟨p, ls, n, r, d, a, b, rfl, hp, u, a0, a1, b0, b1, q⟩ := h
  refine ⟨_, pss_cons (ps_set (i := 3) sc_join_points.nd rfl (.inl rfl) (pe_call G_leader_of (hr.mono (by decide)) (by rfl) D_leader_of.g D_leader_of.F.kp D_leader_of.b .nil pass0 (pa_cons (pv 0) (pa_cons (pv 1) pa_nil))))
     (pss_cons (ps_set (i := 4) sc_join_points.nd rfl (.inl rfl) (pe_call G_leader_of (hr.mono (by decide)) (by rfl) D_leader_of.g D_leader_of.F.kp D_leader_of.b .nil pass0 (pa_cons (pv 0) (pa_cons (pv 2) pa_nil))))
     (pss_cons (ps_asg (pv 3) (pg_sub (pv 0) (pv 4) set_list))
     (pss_one (ps_ret (pe_cmpR op_ne (pv 3) (pv 4) (nomark _)))))), ?_⟩
  refine ⟨_, rfl, _, rfl, p, ls, n, r, d, a, rfl, hp, u, a0, a1, fun l1 u1 => ?_⟩
  refine ⟨_, rfl, _, rfl, p, l1, n, r, d, b, rfl, upd_same, u1, b0, b1, fun l2 u2 => ?_⟩
  rw [upd_upd]
  obtain ⟨q0, q1, _⟩ := u2.rr b b0 b1
  have hl := u2.len
  refine ⟨_, rfl, _, rfl, _, rfl, p, _, _, _, rfl, rfl, upd_same, ix_in q0 (by rw [List.length_map]; omega), ?_⟩
  rw [upd_upd, ← List.map_set]
  obtain ⟨d', u3⟩ := u2.join a0 a1 b0 b1
  have qq := q _ d' u3
  refine ⟨_, rfl, _, rfl, rfl, ?_⟩
  have e : decide (V.int (r a) = V.int (r b)) = decide (r a = r b) := by
    by_cases z : r a = r b
    · rw [decide_eq_true z, decide_eq_true (congrArg V.int z)]
    · rw [decide_eq_false z, decide_eq_false fun h => z (V.int.inj h)]
  rw [e]
  exact qq
theorem ok_ringless {P : Program} {w : World} {K : PySem.W.Frag} {mg : Str → Option Value} {base : Heap} {tb : List Addr} {f : Addr} {fd : FuncData} {f_join_points : Addr} {fd_join_points : FuncData} (T : Blt mg) (D_ringless : DefAt K mg "ringless" s_ringless ["web", "ties"] f fd) (CT : Ktx K mg) (D_join_points : DefAt K mg "join_points" s_join_points ["leaders", "a", "b"] f_join_points fd_join_points) (G_join_points : FnOk P w K mg base CX0 2 f_join_points fd_join_points ["leaders", "a", "b"] (sp_join_points K tb)) :
    FnOk P w K mg base CX0 3 f fd ["web", "ties"] (sp_ringless K tb) := by
  refine D_ringless.ok sc_ringless (fun vs H Q E h => by
    obtain ⟨v, n, ts, u, ms, rfl, W, hu, hok, hn0, hn1, hm, q⟩ := h
    all_goals rfl) fun A outer s H vs Q E hr h => ?_
  obtain ⟨v, n, ts, u, ms, rfl, W, hu, hok, hn0, hn1, hm, q⟩ := h
  refine ⟨_, pss_cons (ps_set (i := 2) sc_ringless.nd rfl (.inl rfl) (pe_listRg rfl (by rfl) T.b_list (prg_1 (by rfl) T.b_range (pe_ix (ix_tupK (K := K)) (pv 0) (pe_int) (fun _ _ => rfl)))))
     (pss_cons (ps_for PassesOwn.never rfl ((pi_seq (K := K)) (pv 1)) (pg_name (i := 3) sc_ringless.nd rfl (.inl rfl))
     (pss_cons (ps_asg (pe_ix (ix_tupK (K := K)) (pe_ix (ix_tupK (K := K)) (pv 0) (pe_int) (fun _ _ => rfl)) (pv 3) (fun _ _ => rfl)) (tgtK (K := K) (n := 2) (pgs_cons (pg_name (i := 4) sc_ringless.nd rfl (.inl rfl)) (pgs_cons (pg_name (i := 5) sc_ringless.nd rfl (.inl rfl)) pgs_nil))))
     (pss_one (ps_if (pt_not (pt_val (pe_call G_join_points (hr.mono (by decide)) (by rfl) D_join_points.g D_join_points.F.kp D_join_points.b .nil pass0 (pa_cons (pv 2) (pa_cons (pv 4) (pa_cons (pv 5) pa_nil))))))
     (pss_one (ps_ret (pe_bl)))
     (pss_nil)))))
     (pss_one (ps_ret (pe_bl)))), ?_⟩
  obtain ⟨t, w, rs, rfl, ht, hw, hT⟩ := W
  refine ⟨_, rfl, t, _, 0, _, rfl, rfl, sqT_of ht, atI_nat (j := 0) rfl, n, rfl, ⟨by omega, by omega, by omega, by omega, by omega⟩, fun l nl => ?_⟩
  rcases hu with hu | hu
  · refine ⟨_, rfl, u, _, rfl, .inl ⟨sqL_of (lst_new nl hu), ?_⟩⟩
    refine for_list (K := K) (a := u) (xs := ms.map V.int) (fun i σ G => ∃ (y3 y4 y5 : Option V) (ls : List Int) (d : Int → Nat), σ = [some (.ref t), some (.ref u), some (.ref l), y3, y4, y5] ∧ Ke H G ∧ G l = some (.lst (ls.map V.int)) ∧ UF n ls (foldR (fun x => x) (pick ts (ms.take i))) d ∧ ringlessF (fun x => x) (pick ts (ms.take i)) = true) ⟨_, _, _, upTo n, _, rfl, Ke.new nl, by rw [← rgV_up]; exact upd_same, UF.start hn0, rfl⟩ (fun i σ G _ hG => ?_) (fun i x σ G hx hG => ?_) (fun σ G hG => ?_)
    · obtain ⟨_, _, _, _, _, _, kG, _⟩ := hG
      exact sqL_of (kG.lst hu)
    · obtain ⟨y3, y4, y5, ls, d, rfl, kG, gl, U, hF⟩ := hG
      obtain ⟨m, hm0, rfl⟩ := int_at hx
      obtain ⟨m0, m1⟩ := hm m (List.mem_of_getElem? hm0)
      obtain ⟨e, he, hq⟩ := hT.at_ m0 m1
      have ok := hok _ (List.mem_of_getElem? (getD_at m0 m1))
      have ok1 := ok.1
      have ok2 := ok.2.1
      have ok3 := ok.2.2
      have ep : pick ts (ms.take (i + 1)) = pick ts (ms.take i) ++ [ts.getD m.toNat (0, 0)] := by rw [take_next hm0, pick_append]; rfl
      have er : pick ts ms = (pick ts (ms.take i) ++ [ts.getD m.toNat (0, 0)]) ++ pick ts (ms.drop (i + 1)) := by rw [← ep, ← pick_append, List.take_append_drop]
      have hmo := ringlessF_more hF (ts.getD m.toNat (0, 0))
      obtain ⟨g, hg⟩ : ∃ g, g = ts.getD m.toNat (0, 0) := ⟨_, rfl⟩
      rw [← hg] at ok1 ok2 ok3 hq hmo ep er
      refine ⟨_, rfl, t, _, 1, _, rfl, rfl, sqT_of (kG.tup ht), atI_nat (j := 1) rfl, _, rfl, w, _, m, _, rfl, rfl, sqT_of (kG.tup hw), he, ?_⟩
      refine ⟨e, _, rfl, sqT_of (kG.tup hq), rfl, _, _, rfl, _, [], rfl, rfl, ?_⟩
      refine ⟨_, rfl, _, rfl, _, rfl, l, ls, n, _, d, g.1, g.2, rfl, gl, U, ok1, Int.lt_trans ok2 ok3, Int.le_trans ok1 (Int.le_of_lt ok2), ok3, fun ls' d' U' => ?_⟩
      refine ⟨_, rfl, iteB (fun hb => ?_) (fun hb => ?_)⟩
      · have hz : ringlessF (fun x => x) (pick ts ms) = false := by
          rw [er]
          refine ringlessF_bad _ _ _ ?_
          rw [hmo]
          revert hb
          cases decide (foldR (fun x => x) (pick ts (ms.take i)) g.1 = foldR (fun x => x) (pick ts (ms.take i)) g.2)
          · intro hb; cases hb
          · intro _; rfl
        have q1 := q _ (kG.over (o := .lst (ls'.map V.int)) nl)
        rw [hz] at q1
        exact q1
      · have hz : ringlessF (fun x => x) (pick ts (ms.take (i + 1))) = true := by
          rw [ep, hmo]
          revert hb
          cases decide (foldR (fun x => x) (pick ts (ms.take i)) g.1 = foldR (fun x => x) (pick ts (ms.take i)) g.2)
          · intro _; rfl
          · intro hb; cases hb
        exact ⟨_, _, _, ls', d', rfl, kG.over nl, upd_same, by rw [ep, foldR_snoc]; exact U', hz⟩
    · obtain ⟨_, _, _, _, _, rfl, kG, _, _, hF⟩ := hG
      have q1 := q G kG
      rw [List.length_map, List.take_length] at hF
      rw [hF] at q1
      exact q1
  · refine ⟨_, rfl, u, _, rfl, .inr ⟨sqT_of (tup_new nl hu), ?_⟩⟩
    refine for_tup (K := K) (a := u) (xs := ms.map V.int) (fun i σ G => ∃ (y3 y4 y5 : Option V) (ls : List Int) (d : Int → Nat), σ = [some (.ref t), some (.ref u), some (.ref l), y3, y4, y5] ∧ Ke H G ∧ G l = some (.lst (ls.map V.int)) ∧ UF n ls (foldR (fun x => x) (pick ts (ms.take i))) d ∧ ringlessF (fun x => x) (pick ts (ms.take i)) = true) ⟨_, _, _, upTo n, _, rfl, Ke.new nl, by rw [← rgV_up]; exact upd_same, UF.start hn0, rfl⟩ (fun i σ G _ hG => ?_) (fun i x σ G hx hG => ?_) (fun σ G hG => ?_)
    · obtain ⟨_, _, _, _, _, _, kG, _⟩ := hG
      exact sqT_of (kG.tup hu)
    · obtain ⟨y3, y4, y5, ls, d, rfl, kG, gl, U, hF⟩ := hG
      obtain ⟨m, hm0, rfl⟩ := int_at hx
      obtain ⟨m0, m1⟩ := hm m (List.mem_of_getElem? hm0)
      obtain ⟨e, he, hq⟩ := hT.at_ m0 m1
      have ok := hok _ (List.mem_of_getElem? (getD_at m0 m1))
      have ok1 := ok.1
      have ok2 := ok.2.1
      have ok3 := ok.2.2
      have ep : pick ts (ms.take (i + 1)) = pick ts (ms.take i) ++ [ts.getD m.toNat (0, 0)] := by rw [take_next hm0, pick_append]; rfl
      have er : pick ts ms = (pick ts (ms.take i) ++ [ts.getD m.toNat (0, 0)]) ++ pick ts (ms.drop (i + 1)) := by rw [← ep, ← pick_append, List.take_append_drop]
      have hmo := ringlessF_more hF (ts.getD m.toNat (0, 0))
      obtain ⟨g, hg⟩ : ∃ g, g = ts.getD m.toNat (0, 0) := ⟨_, rfl⟩
      rw [← hg] at ok1 ok2 ok3 hq hmo ep er
      refine ⟨_, rfl, t, _, 1, _, rfl, rfl, sqT_of (kG.tup ht), atI_nat (j := 1) rfl, _, rfl, w, _, m, _, rfl, rfl, sqT_of (kG.tup hw), he, ?_⟩
      refine ⟨e, _, rfl, sqT_of (kG.tup hq), rfl, _, _, rfl, _, [], rfl, rfl, ?_⟩
      refine ⟨_, rfl, _, rfl, _, rfl, l, ls, n, _, d, g.1, g.2, rfl, gl, U, ok1, Int.lt_trans ok2 ok3, Int.le_trans ok1 (Int.le_of_lt ok2), ok3, fun ls' d' U' => ?_⟩
      refine ⟨_, rfl, iteB (fun hb => ?_) (fun hb => ?_)⟩
      · have hz : ringlessF (fun x => x) (pick ts ms) = false := by
          rw [er]
          refine ringlessF_bad _ _ _ ?_
          rw [hmo]
          revert hb
          cases decide (foldR (fun x => x) (pick ts (ms.take i)) g.1 = foldR (fun x => x) (pick ts (ms.take i)) g.2)
          · intro hb; cases hb
          · intro _; rfl
        have q1 := q _ (kG.over (o := .lst (ls'.map V.int)) nl)
        rw [hz] at q1
        exact q1
      · have hz : ringlessF (fun x => x) (pick ts (ms.take (i + 1))) = true := by
          rw [ep, hmo]
          revert hb
          cases decide (foldR (fun x => x) (pick ts (ms.take i)) g.1 = foldR (fun x => x) (pick ts (ms.take i)) g.2)
          · intro _; rfl
          · intro hb; cases hb
        exact ⟨_, _, _, ls', d', rfl, kG.over nl, upd_same, by rw [ep, foldR_snoc]; exact U', hz⟩
    · obtain ⟨_, _, _, _, _, rfl, kG, _, _, hF⟩ := hG
      have q1 := q G kG
      rw [List.length_map, List.take_length] at hF
      rw [hF] at q1
      exact q1
theorem ok_is_tree {P : Program} {w : World} {K : PySem.W.Frag} {mg : Str → Option Value} {base : Heap} {tb : List Addr} {f : Addr} {fd : FuncData} {f_ringless : Addr} {fd_ringless : FuncData} (T : Blt mg) (D_is_tree : DefAt K mg "is_tree" s_is_tree ["web", "numbers"] f fd) (CT : Ktx K mg) (D_ringless : DefAt K mg "ringless" s_ringless ["web", "ties"] f_ringless fd_ringless) (G_ringless : FnOk P w K mg base CX0 3 f_ringless fd_ringless ["web", "ties"] (sp_ringless K tb)) :
    FnOk P w K mg base CX0 4 f fd ["web", "numbers"] (sp_is_tree K tb) := by
  refine D_is_tree.ok sc_is_tree (fun vs H Q E h => by
    obtain ⟨v, n, ts, u, ns, rfl, W, hok, hn0, hn1, hu, hns, hlen, q⟩ := h
    all_goals rfl) fun A outer s H vs Q E hr h => ?_
  obtain ⟨v, n, ts, u, ns, rfl, W, hok, hn0, hn1, hu, hns, hlen, q⟩ := h
  refine ⟨_, pss_one (ps_ret (pe_and (pe_cmpR op_eq (pe_callB (lenK (K := K)) (by rfl) T.b_len PySem.boot_len (pa_cons (pv 1) pa_nil)) (pe_op op_sub (pe_ix (ix_tupK (K := K)) (pv 0) (pe_int) (fun _ _ => rfl)) (pe_int)) (nomark _)) (pe_one (pe_call G_ringless (hr.mono (by decide)) (by rfl) D_ringless.g D_ringless.F.kp D_ringless.b .nil pass0 (pa_cons (pv 0) (pa_cons (pv 1) pa_nil)))))), ?_⟩
  have LB := line_big
  obtain ⟨tw, wu, rs, rfl, htw, hwu, hT⟩ := id W
  refine ⟨_, rfl, u, _, rfl, .inr (sqT_of hu), _, rfl, tw, _, 0, _, rfl, rfl, sqT_of htw, atI_nat (j := 0) rfl, _, _, rfl, rfl, rfl, ?_⟩
  rw [List.length_map, decide_int]
  by_cases hb : (ns.length : Int) = n - 1
  · rw [decide_eq_true hb]
    refine ⟨_, rfl, (if_pos rfl).mpr ?_⟩
    refine ⟨_, rfl, _, rfl, .ref tw, n, ts, u, ns, rfl, W, .inr hu, hok, by omega, by omega, hns, fun H1 k1 => ?_⟩
    have := q H1 k1
    rw [decide_eq_true hb, Bool.true_and] at this
    exact this
  · rw [decide_eq_false hb]
    refine ⟨_, rfl, (if_neg Bool.false_ne_true).mpr ?_⟩
    have := q H .refl
    rw [decide_eq_false hb, Bool.false_and] at this
    exact this
theorem posM : (0 : Int) < 2305843009213693951 := by decide
theorem modM (x : Int) : 0 ≤ x % 2305843009213693951 ∧ x % 2305843009213693951 < 2305843009213693951 := ⟨Int.emod_nonneg _ (by decide), Int.emod_lt_of_pos _ (by decide)⟩
theorem ok__law_mixed {P : Program} {w : World} {K : PySem.W.Frag} {mg : Str → Option Value} {base : Heap} {tb : List Addr} {f : Addr} {fd : FuncData} (T : Blt mg) (D__law_mixed : DefAt K mg "_law_mixed" s_law_mixed ["_law_cell", "_law_k"] f fd) (CT : Ktx K mg) :
    FnOk P w K mg base CX0 1 f fd ["_law_cell", "_law_k"] (sp__law_mixed K tb) := by
  refine D__law_mixed.ok sc__law_mixed (fun vs H Q E h => by
    obtain ⟨c, k, rfl, hk0, hk1, q⟩ := h
    all_goals rfl) fun A outer s H vs Q E hr h => ?_
  obtain ⟨c, k, rfl, hk0, hk1, q⟩ := h
  refine ⟨_, pss_cons (ps_set (i := 2) sc__law_mixed.nd rfl (.inl rfl) (pe_op op_mod (pe_op op_add (pe_op op_add (pv 0) (pe_op op_mul (pe_op op_mul (pv 1) (pv 1)) (pe_int))) (pe_int)) (pe_int)))
     (pss_cons (ps_set (i := 2) sc__law_mixed.nd rfl (.inl rfl) (pe_op op_mod (pe_op op_mul (pv 2) (pv 2)) (pe_int)))
     (pss_cons (ps_set (i := 2) sc__law_mixed.nd rfl (.inl rfl) (pe_op op_mod (pe_op op_mul (pe_op op_add (pe_op op_add (pv 2) (pe_op op_mul (pv 1) (pe_int))) (pe_int)) (pe_int)) (pe_int)))
     (pss_one (ps_ret (pe_op op_fdiv (pe_op op_mod (pe_op op_mul (pv 2) (pv 2)) (pe_int)) (pe_int)))))), ?_⟩
  refine ⟨_, rfl, _, rfl, _, rfl, _, _, rfl, rfl, .inl ⟨by omega, by omega⟩, _, _, rfl, rfl, .inr ⟨by decide, by decide⟩, _, _, rfl, rfl, _, _, rfl, rfl, _, _, rfl, rfl, posM, ?_⟩
  obtain ⟨x0, x1⟩ := modM (c + k * k * 40503 + 12345)
  refine ⟨_, rfl, _, rfl, _, _, rfl, rfl, .inl ⟨by omega, by omega⟩, _, _, rfl, rfl, posM, ?_⟩
  obtain ⟨y0, y1⟩ := modM ((c + k * k * 40503 + 12345) % 2305843009213693951 * ((c + k * k * 40503 + 12345) % 2305843009213693951))
  generalize (c + k * k * 40503 + 12345) % 2305843009213693951 * ((c + k * k * 40503 + 12345) % 2305843009213693951) = y at *
  refine ⟨_, rfl, _, rfl, _, _, rfl, rfl, .inl ⟨by omega, by omega⟩, _, _, rfl, rfl, _, _, rfl, rfl, _, _, rfl, rfl, .inl ⟨by omega, by omega⟩, _, _, rfl, rfl, posM, ?_⟩
  obtain ⟨z0, z1⟩ := modM ((y % 2305843009213693951 + k * 7919 + 1) * 48271)
  refine ⟨_, rfl, _, rfl, _, _, rfl, rfl, .inl ⟨by omega, by omega⟩, _, _, rfl, rfl, posM, _, _, rfl, rfl, ⟨by decide, by decide⟩, ?_⟩
  exact q _ (Int.ediv_nonneg (Int.emod_nonneg _ (by decide)) (by decide))
theorem own_list (ns : List Int) : ∃ own : List Int, cutV (ns.map V.int) none (some 60) ++ (List.replicate (Int.toNat (if decide (V.int ((ns.map V.int).length : Int) = V.int 0) = true then 1 else 0)) [V.int 0]).flatten = own.map V.int ∧ 0 < own.length ∧ own.length ≤ 60 := by
  have e : cutV (ns.map V.int) none (some 60) = (ns.take 60).map V.int := by
    rw [show (some (60 : Int)) = some ((60 : Nat) : Int) from rfl, cut_to, List.map_take]
  rw [e]
  cases ns with
  | nil => exact ⟨[0], rfl, by decide, by decide⟩
  | cons x r =>
    have d : decide (V.int (((x :: r).map V.int).length : Int) = V.int 0) = false := decide_eq_false fun z => by
      have z := V.int.inj z
      rw [List.length_map, List.length_cons] at z
      omega
    rw [d]
    refine ⟨(x :: r).take 60, by simp, by simp, by rw [List.length_take]; omega⟩
theorem p1000 : (0 : Int) < 1000 := by decide
theorem ok__law_deck {P : Program} {w : World} {K : PySem.W.Frag} {mg : Str → Option Value} {base : Heap} {tb : List Addr} {f : Addr} {fd : FuncData} {f__law_mixed : Addr} {fd__law_mixed : FuncData} (T : Blt mg) (D__law_deck : DefAt K mg "_law_deck" s_law_deck ["_law_script", "_law_many"] f fd) (CT : Ktx K mg) (D__law_mixed : DefAt K mg "_law_mixed" s_law_mixed ["_law_cell", "_law_k"] f__law_mixed fd__law_mixed) (G__law_mixed : FnOk P w K mg base CX0 1 f__law_mixed fd__law_mixed ["_law_cell", "_law_k"] (sp__law_mixed K tb)) :
    FnOk P w K mg base CX0 2 f fd ["_law_script", "_law_many"] (sp__law_deck K tb) := by
  refine D__law_deck.ok sc__law_deck (fun vs H Q E h => by
    obtain ⟨a, ns, n, rfl, hS, hlen, hn0, hn1, q⟩ := h
    all_goals rfl) fun A outer s H vs Q E hr h => ?_
  obtain ⟨a, ns, n, rfl, hS, hlen, hn0, hn1, q⟩ := h
  refine ⟨_, pss_cons (ps_set (i := 2) sc__law_deck.nd rfl (.inl rfl) (pe_op op_cat (pe_callTy (listK (K := K)) (by rfl) T.b_list (by decide +kernel) (pa_cons (pe_slice (sl_listK (K := K)) (pv 0) po_none (po_some (pe_int))) pa_nil)) (pe_op op_rep (pe_lst (pa_cons (pe_int) pa_nil)) (pe_callTy call_int1 (by rfl) T.b_int (by decide +kernel) (pa_cons (pe_cmpR op_eq (pe_callB (lenK (K := K)) (by rfl) T.b_len PySem.boot_len (pa_cons (pv 0) pa_nil)) (pe_int) (nomark _)) pa_nil)))))
     (pss_cons (ps_setLc (i := 4) (own := [("_law_cell", 3)]) rfl sc__law_deck.nd rfl rfl (sw_true rfl rfl rfl (by decide +kernel)) (pi_list (pv 2)) (blkOk_by (own := [("_law_cell", 3)]) (N := nm__law_deck) (sc := defScope s_law_deck) (by decide +kernel)) (fun _ _ _ _ _ => pg_name (i := 3) sc__law_deck.nd rfl (.inl rfl)) (fun _ _ _ _ _ => pts_nil) (fun _ _ _ _ _ => pe_op op_mul (pv 3) (pe_callTy call_int1 (by rfl) T.b_int (by decide +kernel) (pa_cons (pe_cmpR op_ge (pv 3) (pe_op op_pow (pe_int) (pe_int)) (nomark _)) pa_nil))))
     (pss_cons (ps_set (i := 5) sc__law_deck.nd rfl (.inl rfl) (pe_lst pa_nil))
     (pss_cons (ps_for PassesOwn.never rfl (pi_range1 (by rfl) T.b_range (pa_cons (pv 1) pa_nil)) (pg_name (i := 6) sc__law_deck.nd rfl (.inl rfl))
     (pss_cons (ps_set (i := 7) sc__law_deck.nd rfl (.inl rfl) (pe_op op_mod (pv 6) (pe_callB (lenK (K := K)) (by rfl) T.b_len PySem.boot_len (pa_cons (pv 2) pa_nil))))
     (pss_one (ps_if (pt_cmpR op_gt (pe_ix (ix_listK (K := K)) (pv 4) (pv 7) (fun _ _ => rfl)) (pe_int) (nomark _))
     (pss_cons (ps_expr (pe_bm PySem.F.plainAttrs_list PySem.F.slot_list_append PySem.F.type_list_append mt_append (pv 5) (pa_cons (pe_op op_mod (pe_ix (ix_listK (K := K)) (pv 4) (pv 7) (fun _ _ => rfl)) (pe_int)) pa_nil)))
     (pss_one (ps_asg (pe_op op_fdiv (pe_ix (ix_listK (K := K)) (pv 4) (pv 7) (fun _ _ => rfl)) (pe_int)) (pg_sub (pv 4) (pv 7) set_list))))
     (pss_one (ps_expr (pe_bm PySem.F.plainAttrs_list PySem.F.slot_list_append PySem.F.type_list_append mt_append (pv 5) (pa_cons (pe_op op_mod (pe_call G__law_mixed (hr.mono (by decide)) (by rfl) D__law_mixed.g D__law_mixed.F.kp D__law_mixed.b .nil pass0 (pa_cons (pe_ix (ix_listK (K := K)) (pv 2) (pv 7) (fun _ _ => rfl)) (pa_cons (pe_op op_add (pv 6) (pe_int)) pa_nil))) (pe_int)) pa_nil))))))))
     (pss_one (ps_ret (pe_listRev rfl (by rfl) T.b_list (by rfl) T.b_reversed (pv 5))))))), ?_⟩
  -- own
  refine ⟨_, rfl, 60, rfl, a, _, rfl, hS, fun c nc => ?_⟩
  refine ⟨c, _, rfl, .inl (sqL_of upd_same), fun l nl => ?_⟩
  have k1 : Ke H (upd (upd H c (.lst (cutV (ns.map V.int) none (some 60)))) l (.lst (cutV (ns.map V.int) none (some 60)))) := (Ke.new nc).trans (Ke.new nl)
  have hl1 : (upd (upd H c (.lst (cutV (ns.map V.int) none (some 60)))) l (.lst (cutV (ns.map V.int) none (some 60)))) l = some (.lst (cutV (ns.map V.int) none (some 60))) := upd_same
  generalize (upd (upd H c (.lst (cutV (ns.map V.int) none (some 60)))) l (.lst (cutV (ns.map V.int) none (some 60)))) = Ha at *
  have hla : (ns.map V.int).length = ns.length := List.length_map ..
  refine ⟨by decide, fun z nz => ?_⟩
  refine ⟨_, rfl, a, _, rfl, .inl ((k1.trans (Ke.new nz)).seqL hS (fun z => z)), rfl, .inr ⟨_, rfl, ?_⟩⟩
  refine ⟨z, _, _, rfl, rfl, upd_same, by split <;> decide, by split <;> decide, by split <;> decide, fun r nr => ?_⟩
  have k2 : Ke Ha (upd (upd Ha z (.lst [.int 0])) r (.lst (List.replicate (Int.toNat (if decide (V.int ((ns.map V.int).length : Int) = V.int 0) then 1 else 0)) [V.int 0]).flatten)) := (Ke.new nz).trans (Ke.new nr)
  have hcl : (cutV (ns.map V.int) none (some 60)).length ≤ 63 := Nat.le_trans (cutV_length _ _ _) (by omega)
  obtain ⟨own, eown, hown0, hown1⟩ := own_list ns
  refine ⟨l, r, _, _, rfl, rfl, k2.lst hl1, upd_same, ?_, fun o no => ?_⟩
  · rw [← List.length_append, eown, List.length_map]
    have := line_big
    omega
  rw [eown]
  have k3 := (k1.trans k2).trans (Ke.new (S := fun _ => False) (o := .lst (own.map V.int)) no)
  have ho : upd (upd (upd Ha z (.lst [.int 0])) r (.lst (List.replicate (Int.toNat (if decide (V.int ((ns.map V.int).length : Int) = V.int 0) = true then 1 else 0)) [V.int 0]).flatten)) o (.lst (own.map V.int)) o = some (.lst (own.map V.int)) := upd_same
  generalize upd (upd (upd Ha z (.lst [.int 0])) r (.lst (List.replicate (Int.toNat (if decide (V.int ((ns.map V.int).length : Int) = V.int 0) = true then 1 else 0)) [V.int 0]).flatten)) o (.lst (own.map V.int)) = Hb at *
  -- rest
  refine ⟨_, rfl, o, rfl, ⟨_, sqL_of ho⟩, fun D hD => ?_⟩
  refine lc_list (K := K) (a := o) (xs := own.map V.int) (fun i G => ∃ rs : List Int, rs.length = i ∧ G = upd Hb D (.lst (rs.map V.int))) ⟨[], rfl, rfl⟩ (fun i G _ hG => ?_) (fun i x G hx hG => ?_) (fun G hG => ?_)
  · obtain ⟨rs, _, rfl⟩ := hG
    exact sqL_of (by rw [upd_ne (ne_of_none ho hD)]; exact ho)
  · obtain ⟨rs, hrs, rfl⟩ := hG
    obtain ⟨v, hv, rfl⟩ : ∃ v, own[i]? = some v ∧ x = .int v := by
      rw [List.getElem?_map] at hx
      cases e : own[i]? with
      | none => rw [e] at hx; cases hx
      | some v => rw [e] at hx; exact ⟨v, rfl, (Option.some.inj hx).symm⟩
    have hi : i < own.length := (List.getElem?_eq_some_iff.mp hv).1
    refine ⟨rfl, yes_ite ?_⟩
    refine ⟨_, rfl, _, rfl, _, _, rfl, rfl, ⟨by decide, by decide, by decide⟩, _, _, rfl, rfl, .inr ⟨_, rfl, _, _, rfl, rfl, .inr ⟨by split <;> decide, by split <;> decide⟩, _, upd_same, ?_, ?_⟩⟩
    · rw [List.length_map]
      have := line_big
      omega
    · rw [upd_upd]
      exact ⟨rs ++ [_], by rw [List.length_append, hrs]; rfl, by rw [List.map_append]; rfl⟩
  · obtain ⟨rs, hrs, rfl⟩ := hG
    rw [List.length_map] at hrs
    -- the deck
    have k4 := k3.over (o := .lst (rs.map V.int)) (k3.dom _ hD)
    have ho4 : upd Hb D (.lst (rs.map V.int)) o = some (.lst (own.map V.int)) := by rw [upd_ne (ne_of_none ho hD)]; exact ho
    refine ⟨Nat.zero_le _, fun p np => ?_⟩
    obtain ⟨npD, np0⟩ := upd_none np
    have nHD := k3.dom _ hD
    have nHp := k3.dom _ np0
    refine ⟨_, rfl, n, rfl, by omega, by omega, ?_⟩
    refine for_range (n := n.toNat) (fun i σ G => ∃ (y6 y7 : Option V) (ds rs : List Int), σ = [some (.ref a), some (.int n), some (.ref o), none, some (.ref D), some (.ref p), y6, y7] ∧ Ke H G ∧ G o = some (.lst (own.map V.int)) ∧ G D = some (.lst (rs.map V.int)) ∧ rs.length = own.length ∧ G p = some (.lst (ds.map V.int)) ∧ ds.length = i ∧ Dig ds)
      ⟨none, none, [], rs, rfl, k4.over nHp, by rw [upd_ne (ne_of_none ho4 np)]; exact ho4, by rw [upd_ne npD.symm, upd_same], hrs, upd_same, rfl, fun _ z => nomatch z⟩ (fun i σ G hi hG => ?_) (fun σ G hG => ?_)
    · obtain ⟨y6, y7, ds, rs, rfl, kG, go, gD, hrs, gp, hds, hdig⟩ := hG
      have m0 := emod_bds (0 + (i : Int)) (n := own.length) (by omega)
      have hol : ((own.map V.int).length : Int) = own.length := by rw [List.length_map]
      refine ⟨_, rfl, _, rfl, o, _, rfl, .inl (sqL_of go), _, _, rfl, rfl, by rw [hol]; omega, ?_⟩
      rw [hol]
      obtain ⟨v, _, _, ev⟩ := at_int (xs := rs) m0.1 (by rw [hrs]; exact m0.2)
      obtain ⟨u, _, _, eu⟩ := at_int (xs := own) m0.1 m0.2
      have npo : o ≠ p := ne_of_none ho4 np
      refine ⟨_, rfl, _, rfl, D, _, _, _, rfl, rfl, sqL_of gD, ev, _, _, rfl, rfl, _, rfl, ite2 (fun hc => ?_) (fun hc => ?_)⟩
      · have hv : 0 < v := of_decide_eq_true hc
        have d0 := emod_bds v (n := 1000) (by decide)
        refine ⟨_, rfl, .inl ⟨rfl, _, sqL_of gp⟩, _, rfl, _, rfl, D, _, _, _, rfl, rfl, sqL_of gD, ev, _, _, rfl, rfl, p1000, p, _, _, rfl, rfl, gp, ?_, ?_⟩
        · rw [List.length_map]
          have := line_big
          omega
        · have gD2 : upd G p (.lst (ds.map V.int ++ [.int (v % 1000)])) D = some (.lst (rs.map V.int)) := by rw [upd_ne npD.symm]; exact gD
          refine ⟨_, rfl, _, rfl, D, _, _, _, rfl, rfl, sqL_of gD2, ev, _, _, rfl, rfl, ⟨by decide, by decide⟩, _, rfl, _, rfl, D, _, _, _, rfl, rfl, gD2, ix_in m0.1 (by rw [List.length_map, hrs]; exact m0.2), ?_⟩
          refine ⟨_, _, ds ++ [v % 1000], rs.set ((0 + (i : Int)) % own.length).toNat (v / 1000), rfl, (kG.over nHp).over nHD, ?_, ?_, by rw [List.length_set]; exact hrs, ?_, by rw [List.length_append, hds]; rfl, ?_⟩
          · rw [upd_ne (ne_of_none ho hD), upd_ne npo]
            exact go
          · rw [upd_same, List.map_set]
          · rw [upd_ne npD, upd_same, List.map_append]
            rfl
          · intro d hd
            rcases List.mem_append.mp hd with hd | hd
            · exact hdig d hd
            · rw [List.mem_singleton.mp hd]
              exact d0
      · refine ⟨_, rfl, .inl ⟨rfl, _, sqL_of gp⟩, _, rfl, _, rfl, o, _, _, _, rfl, rfl, sqL_of go, eu, _, rfl, _, _, rfl, rfl, _, _, rfl, by omega, by omega, fun rr hr0 => ?_⟩
        have d0 := emod_bds rr (n := 1000) (by decide)
        refine ⟨_, _, rfl, rfl, p1000, p, _, _, rfl, rfl, gp, ?_, ?_⟩
        · rw [List.length_map]
          have := line_big
          omega
        · refine ⟨_, _, ds ++ [rr % 1000], rs, rfl, kG.over nHp, ?_, ?_, hrs, ?_, by rw [List.length_append, hds]; rfl, ?_⟩
          · rw [upd_ne npo]
            exact go
          · rw [upd_ne npD.symm]
            exact gD
          · rw [upd_same, List.map_append]
            rfl
          · intro d hd
            rcases List.mem_append.mp hd with hd | hd
            · exact hdig d hd
            · rw [List.mem_singleton.mp hd]
              exact d0
    · obtain ⟨y6, y7, ds, rs, rfl, kG, go, gD, hrs, gp, hds, hdig⟩ := hG
      refine ⟨_, rfl, p, _, rfl, sqL_of gp, fun e ne => ?_⟩
      exact q e _ (kG.dom _ ne) (kG.trans (Ke.new ne)) ⟨ds.reverse, by rw [upd_same, List.map_reverse], fun d hd => hdig d (List.mem_reverse.mp hd)⟩
theorem ok__law_next {P : Program} {w : World} {K : PySem.W.Frag} {mg : Str → Option Value} {base : Heap} {tb : List Addr} {f : Addr} {fd : FuncData} (T : Blt mg) (D__law_next : DefAt K mg "_law_next" s_law_next ["_law_deck_here"] f fd) (CT : Ktx K mg) :
    FnOk P w K mg base CX0 1 f fd ["_law_deck_here"] (sp__law_next K tb) := by
  refine D__law_next.ok sc__law_next (fun vs H Q E h => by
    obtain ⟨p, rfl, hd, q⟩ := h
    all_goals rfl) fun A outer s H vs Q E hr h => ?_
  obtain ⟨p, rfl, hd, q⟩ := h
  refine ⟨_, pss_cons (ps_if (pt_cmpR op_gt (pe_callB (lenK (K := K)) (by rfl) T.b_len PySem.boot_len (pa_cons (pv 0) pa_nil)) (pe_int) (nomark _))
     (pss_one (ps_ret (pe_bm0 PySem.F.plainAttrs_list PySem.F.slot_list_pop PySem.F.type_list_pop mt_pop (pv 0))))
     (pss_nil))
     (pss_one (ps_ret (pe_int))), ?_⟩
  obtain ⟨ds, hp, hg⟩ := id hd
  refine ⟨_, rfl, p, ds.map V.int, rfl, .inl (sqL_of hp), _, _, rfl, rfl, _, rfl, ite2 (fun e => ?_) (fun e => ?_)⟩
  · have hl : 0 < ds.length := by
      have h0 := of_decide_eq_true e
      rw [List.length_map] at h0
      omega
    have hlast : (ds.map V.int)[(ds.map V.int).length - 1]? = some (.int ds[ds.length - 1]) := by
      rw [List.length_map, List.getElem?_map, List.getElem?_eq_getElem (by omega)]
      rfl
    refine ⟨_, rfl, .inl ⟨rfl, _, sqL_of hp⟩, p, ds.map V.int, _, rfl, rfl, hp, hlast, ?_⟩
    have hm : ds[ds.length - 1] ∈ ds := List.getElem_mem _
    refine q _ _ (hg _ hm).1 (hg _ hm).2 ⟨Ke.put hp (fun _ z => nomatch z), ds.dropLast, ?_, fun d h => hg d (List.dropLast_subset _ h)⟩
    rw [upd_same, List.map_dropLast]
  · exact q 0 H (by decide) (by decide) (.refl hd)
theorem tie_ne {a r n : Int} (hn : 2 ≤ n) (a0 : 0 ≤ a) (a1 : a < n) (r0 : 0 ≤ r) (r1 : r < n - 1) : (a + 1 + r) % n ≠ a := by
  intro h
  by_cases c : a + 1 + r < n
  · rw [Int.emod_eq_of_lt (by omega) c] at h
    omega
  · have e : (a + 1 + r) % n = a + 1 + r - n := by
      rw [← Int.sub_emod_right, Int.emod_eq_of_lt (by omega) (by omega)]
    omega
theorem ok__law_tie {P : Program} {w : World} {K : PySem.W.Frag} {mg : Str → Option Value} {base : Heap} {tb : List Addr} {f : Addr} {fd : FuncData} {f__law_next : Addr} {fd__law_next : FuncData} (T : Blt mg) (D__law_tie : DefAt K mg "_law_tie" s_law_tie ["_law_deck_here", "_law_points"] f fd) (CT : Ktx K mg) (D__law_next : DefAt K mg "_law_next" s_law_next ["_law_deck_here"] f__law_next fd__law_next) (G__law_next : FnOk P w K mg base CX0 1 f__law_next fd__law_next ["_law_deck_here"] (sp__law_next K tb)) :
    FnOk P w K mg base CX0 2 f fd ["_law_deck_here", "_law_points"] (sp__law_tie K tb) := by
  refine D__law_tie.ok sc__law_tie (fun vs H Q E h => by
    obtain ⟨p, n, rfl, hd, hn, q⟩ := h
    all_goals rfl) fun A outer s H vs Q E hr h => ?_
  obtain ⟨p, n, rfl, hd, hn, q⟩ := h
  refine ⟨_, pss_cons (ps_set (i := 2) sc__law_tie.nd rfl (.inl rfl) (pe_op op_mod (pe_call G__law_next (hr.mono (by decide)) (by rfl) D__law_next.g D__law_next.F.kp D__law_next.b .nil pass0 (pa_cons (pv 0) pa_nil)) (pv 1)))
     (pss_cons (ps_set (i := 3) sc__law_tie.nd rfl (.inl rfl) (pe_op op_mod (pe_op op_add (pe_op op_add (pv 2) (pe_int)) (pe_op op_mod (pe_call G__law_next (hr.mono (by decide)) (by rfl) D__law_next.g D__law_next.F.kp D__law_next.b .nil pass0 (pa_cons (pv 0) pa_nil)) (pe_op op_sub (pv 1) (pe_int)))) (pv 1)))
     (pss_one (ps_ret (pe_tup (pa_cons (pe_callB (call_min2 rfl) (by rfl) T.b_min (by decide +kernel) (pa_cons (pv 2) (pa_cons (pv 3) pa_nil))) (pa_cons (pe_callB (call_max2 rfl) (by rfl) T.b_max (by decide +kernel) (pa_cons (pv 2) (pa_cons (pv 3) pa_nil))) pa_nil)))))), ?_⟩
  refine ⟨_, rfl, p, rfl, hd, fun r1 H1 a0 a1 k1 => ?_⟩
  refine ⟨_, rfl, _, _, rfl, rfl, by omega, ?_⟩
  have b0 : 0 ≤ r1 % n := Int.emod_nonneg _ (by omega)
  have b1 : r1 % n < n := Int.emod_lt_of_pos _ (by omega)
  refine ⟨_, rfl, _, _, rfl, rfl, _, rfl, p, rfl, k1.d, fun r2 H2 c0 c1 k2 => ?_⟩
  refine ⟨_, rfl, _, _, rfl, rfl, _, _, rfl, rfl, by omega, _, _, rfl, rfl, _, rfl, _, _, rfl, rfl, by omega, ?_⟩
  have e0 : 0 ≤ r2 % (n - 1) := Int.emod_nonneg _ (by omega)
  have e1 : r2 % (n - 1) < n - 1 := Int.emod_lt_of_pos _ (by omega)
  have hne := tie_ne hn b0 b1 e0 e1
  have d0 : 0 ≤ (r1 % n + 1 + r2 % (n - 1)) % n := Int.emod_nonneg _ (by omega)
  have d1 : (r1 % n + 1 + r2 % (n - 1)) % n < n := Int.emod_lt_of_pos _ (by omega)
  refine ⟨_, rfl, _, rfl, _, _, rfl, _, rfl, _, rfl, _, _, rfl, by show 2 ≤ sizeLine; decide, fun t ht => ?_⟩
  exact q _ _ t H2 (by split <;> omega) (by split <;> split <;> omega) (by split <;> omega) (k1.trans k2) ht
theorem ok__law_tree {P : Program} {w : World} {K : PySem.W.Frag} {mg : Str → Option Value} {base : Heap} {tb : List Addr} {f : Addr} {fd : FuncData} {f__law_next : Addr} {fd__law_next : FuncData} (T : Blt mg) (D__law_tree : DefAt K mg "_law_tree" s_law_tree ["_law_deck_here", "_law_points"] f fd) (CT : Ktx K mg) (D__law_next : DefAt K mg "_law_next" s_law_next ["_law_deck_here"] f__law_next fd__law_next) (G__law_next : FnOk P w K mg base CX0 1 f__law_next fd__law_next ["_law_deck_here"] (sp__law_next K tb)) :
    FnOk P w K mg base CX0 2 f fd ["_law_deck_here", "_law_points"] (sp__law_tree K tb) := by
  refine D__law_tree.ok sc__law_tree (fun vs H Q E h => by
    obtain ⟨p, n, rfl, hd, hn0, hn1, q⟩ := h
    all_goals rfl) fun A outer s H vs Q E hr h => ?_
  obtain ⟨p, n, rfl, hd, hn0, hn1, q⟩ := h
  refine ⟨_, pss_one (ps_ret (pe_lc (own := [("_law_k", 2)]) rfl sc__law_tree.nd (pi_range2 (by rfl) T.b_range (pa_cons (pe_int) (pa_cons (pv 1) pa_nil))) (blkOk_by (own := [("_law_k", 2)]) (N := nm__law_tree) (sc := defScope s_law_tree) (by decide +kernel)) (fun _ _ _ _ _ => pg_name (i := 2) sc__law_tree.nd rfl (.inl rfl)) (fun _ _ _ _ _ => pts_nil) (fun _ _ _ _ _ => pe_tup (pa_cons (pe_op op_mod (pe_call G__law_next (hr.mono (by decide)) (by rfl) D__law_next.g D__law_next.F.kp D__law_next.b .nil pass0 (pa_cons (pv 0) pa_nil)) (pv 2)) (pa_cons (pv 2) pa_nil))))), ?_⟩
  refine ⟨_, rfl, 1, n, rfl, ⟨by omega, by omega, by omega, by omega⟩, fun D hD => ?_⟩
  refine lc_range (lo := 1) (n := (n - 1).toNat) (fun i G => ∃ (rs : List V) (ts : List (Int × Int)), G D = some (.lst rs) ∧ Ties G rs ts ∧ ts.length = i ∧ TOk n ts ∧ Dk p H G ∧ ringlessF (fun x => x) ts = true ∧ ∀ t ∈ ts, t.1 < 1 + (i : Int) ∧ t.2 < 1 + (i : Int)) ⟨[], [], upd_same, .nil, rfl, TOk.nil, (Dk.refl hd).new hD, rfl, fun _ z => nomatch z⟩ (fun i G hi hG => ?_) (fun G hG => ?_)
  · obtain ⟨rs, ts, gD, gT, hl, hok, kG, hrg, hin⟩ := hG
    refine ⟨rfl, yes_ite ?_⟩
    refine ⟨_, rfl, p, rfl, kG.d, fun r G1 r0 r1 kG1 => ?_⟩
    have e1 := emod_bds r (n := 1 + (i : Int)) (by omega)
    refine ⟨_, rfl, _, _, rfl, rfl, by omega, _, rfl, by show 2 ≤ sizeLine; decide, fun t nt => ?_⟩
    have nDp : D ≠ p := (hd.ne hD).symm
    have gD1 : G1 D = some (.lst rs) := kG1.lst gD nDp
    have gD2 : upd G1 t (.tup [.int (r % (1 + (i : Int))), .int (1 + (i : Int))]) D = some (.lst rs) := by rw [upd_ne (ne_of_none gD1 nt)]; exact gD1
    refine ⟨rs, gD2, ?_, rs ++ [.ref t], ts ++ [(r % (1 + (i : Int)), 1 + (i : Int))], upd_same, ((((gT.dk kG1 kG.d).new nt).append (Ties.one upd_same)).put gD2), by rw [List.length_append, hl]; rfl, hok.append (TOk.one e1.1 e1.2 (by omega)), ((kG.trans kG1).new nt).over hd hD, ?_, ?_⟩
    · rw [gT.length, hl]
      have := line_big
      omega
    · exact ringlessF_leaf (a := r % (1 + (i : Int))) (b := 1 + (i : Int)) hrg (fun t ht => by have := hin t ht; omega) (by omega) (.inl rfl)
    · intro t ht
      rcases List.mem_append.mp ht with ht | ht
      · have := hin t ht
        omega
      · rw [List.mem_singleton.mp ht]
        show r % (1 + (i : Int)) < 1 + ((i + 1 : Nat) : Int) ∧ 1 + (i : Int) < 1 + ((i + 1 : Nat) : Int)
        omega
  · obtain ⟨rs, ts, gD, gT, hl, hok, kG, hrg, hin⟩ := hG
    exact q _ D ts kG hD ⟨rs, gD, gT⟩ (by omega) hok hrg
theorem ok__law_heads {P : Program} {w : World} {K : PySem.W.Frag} {mg : Str → Option Value} {base : Heap} {tb : List Addr} {f : Addr} {fd : FuncData} (T : Blt mg) (D__law_heads : DefAt K mg "_law_heads" s_law_heads ["_law_points", "_law_ties"] f fd) (CT : Ktx K mg) :
    FnOk P w K mg base CX0 1 f fd ["_law_points", "_law_ties"] (sp__law_heads K tb) := by
  refine D__law_heads.ok sc__law_heads (fun vs H Q E h => by
    obtain ⟨n, u, rs, ts, rfl, hu, hT, hok, hn0, hn1, q⟩ := h
    all_goals rfl) fun A outer s H vs Q E hr h => ?_
  obtain ⟨n, u, rs, ts, rfl, hu, hT, hok, hn0, hn1, q⟩ := h
  refine ⟨_, pss_cons (ps_set (i := 2) sc__law_heads.nd rfl (.inl rfl) (pe_listRg rfl (by rfl) T.b_list (prg_1 (by rfl) T.b_range (pv 0))))
     (pss_cons (ps_for PassesOwn.never rfl (pi_list (pv 1)) (tgtK (K := K) (n := 2) (pgs_cons (pg_name (i := 3) sc__law_heads.nd rfl (.inl rfl)) (pgs_cons (pg_name (i := 4) sc__law_heads.nd rfl (.inl rfl)) pgs_nil)))
     (pss_cons (ps_set (i := 5) sc__law_heads.nd rfl (.inr rfl) (pe_ix (ix_listK (K := K)) (pv 2) (pv 3) (fun _ _ => rfl)))
     (pss_cons (ps_set (i := 6) sc__law_heads.nd rfl (.inr rfl) (pe_ix (ix_listK (K := K)) (pv 2) (pv 4) (fun _ _ => rfl)))
     (pss_one (ps_setLc (i := 2) (own := [("_law_head", 7)]) rfl sc__law_heads.nd rfl rfl (sw_true rfl rfl rfl (by decide +kernel)) (pi_list (pv 2)) (blkOk_by (own := [("_law_head", 7)]) (N := nm__law_heads) (sc := defScope s_law_heads) (by decide +kernel)) (fun _ _ _ _ _ => pg_name (i := 7) sc__law_heads.nd rfl (.inl rfl)) (fun _ _ _ _ _ => pts_nil) (fun _ _ _ _ _ => pe_ix (ix_listK (K := K)) (pe_lst (pa_cons (pv 7) (pa_cons (pe_callB (call_min2 rfl) (by rfl) T.b_min (by decide +kernel) (pa_cons (pv 5) (pa_cons (pv 6) pa_nil))) pa_nil))) (pe_callTy call_int1 (by rfl) T.b_int (by decide +kernel) (pa_cons (pe_cmpR (in_seqK (K := K)) (pv 7) (pe_lst (pa_cons (pv 5) (pa_cons (pv 6) pa_nil))) (by rfl)) pa_nil)) (fun _ _ => rfl)))))))
     (pss_one (ps_ret (pv 2)))), ?_⟩
  refine ⟨_, rfl, n, rfl, ⟨by omega, by omega, by omega, by omega, by omega⟩, fun l nl => ?_⟩
  refine ⟨_, rfl, u, rfl, ⟨_, sqL_of (lst_new nl hu)⟩, ?_⟩
  refine for_list (K := K) (a := u) (xs := rs) (fun i σ G => ∃ (y3 y4 y5 y6 y7 : Option V) (l' : Addr), σ = [some (.int n), some (.ref u), some (.ref l'), y3, y4, y5, y6, y7] ∧ Ke H G ∧ G l' = some (.lst ((headsF (upTo n) (ts.take i)).map V.int))) ⟨_, _, _, _, _, l, rfl, Ke.new nl, by rw [upd_same, rgV_up]; rfl⟩ (fun i σ G _ hG => ?_) (fun i x σ G hx hG => ?_) (fun σ G hG => ?_)
  · obtain ⟨_, _, _, _, _, _, _, kG, _⟩ := hG
    exact sqL_of (kG.lst hu)
  · obtain ⟨y3, y4, y5, y6, y7, l', rfl, kG, gl⟩ := hG
    obtain ⟨⟨x1, x2⟩, r', hti, rfl, hr'⟩ := hT.get hx
    obtain ⟨ok1, ok2, ok3⟩ := hok _ (List.mem_of_getElem? hti)
    dsimp only at ok1 ok2 ok3
    have en : headsF (upTo n) (ts.take (i + 1)) = hstep (headsF (upTo n) (ts.take i)) (x1, x2) := by rw [take_next hti, headsF_snoc]
    have hl : ((headsF (upTo n) (ts.take i)).length : Int) = n := by rw [headsF_length, upTo_length]; omega
    obtain ⟨hs, ehs⟩ : ∃ hs, hs = headsF (upTo n) (ts.take i) := ⟨_, rfl⟩
    rw [← ehs] at en hl gl
    refine ⟨r', _, rfl, sqT_of (kG.tup hr'), rfl, _, _, rfl, _, [], rfl, rfl, ?_⟩
    refine ⟨_, rfl, _, rfl, l', _, _, _, rfl, rfl, sqL_of gl, hat_at ok1 (by omega), ?_⟩
    refine ⟨_, rfl, _, rfl, l', _, _, _, rfl, rfl, sqL_of gl, hat_at (x := x2) (by omega) (by omega), ?_⟩
    refine ⟨_, rfl, l', rfl, ⟨_, sqL_of gl⟩, fun D hD => ?_⟩
    refine lc_list (K := K) (a := l') (xs := hs.map V.int) (fun j G' => Ke H G' ∧ G' l' = some (.lst (hs.map V.int)) ∧ G' D = some (.lst (((hs.take j).map (mrg (hat hs x1) (hat hs x2))).map V.int))) ⟨kG.trans (Ke.new hD), lst_new hD gl, upd_same⟩ (fun j G' _ hG' => sqL_of hG'.2.1) (fun j x G' hx' hG' => ?_) (fun G' hG' => ?_)
    · obtain ⟨kG', gl', gD'⟩ := hG'
      obtain ⟨h, hh, rfl⟩ := int_at hx'
      refine ⟨rfl, yes_ite ?_⟩
      refine ⟨_, rfl, _, rfl, _, rfl, _, _, rfl, by show 2 ≤ sizeLine; decide, fun b nb => ?_⟩
      refine ⟨_, rfl, _, rfl, _, rfl, by show 2 ≤ sizeLine; decide, fun c nc => ?_⟩
      refine ⟨c, [hat hs x1, hat hs x2].map V.int, rfl, .inl (sqL_of upd_same), rfl, rfl, .inr ⟨_, rfl, ?_⟩⟩
      have hj : j < hs.length := (List.getElem?_eq_some_iff.mp hh).1
      have e0 : ((hs.take (j + 1)).map (mrg (hat hs x1) (hat hs x2))).map V.int = ((hs.take j).map (mrg (hat hs x1) (hat hs x2))).map V.int ++ [V.int (mrg (hat hs x1) (hat hs x2) h)] := by rw [take_next hh, List.map_append, List.map_append]; rfl
      refine ⟨b, [V.int h, V.int (if hat hs x2 < hat hs x1 then hat hs x2 else hat hs x1)], _, V.int (mrg (hat hs x1) (hat hs x2) h), rfl, rfl, sqL_of (lst_new nc upd_same), ?_, _, lst_new nc (lst_new nb gD'), ?_, ?_⟩
      · show atI [V.int h, V.int (if hat hs x2 < hat hs x1 then hat hs x2 else hat hs x1)] (if inV (V.int h) ([hat hs x1, hat hs x2].map V.int) = true then 1 else 0) = _
        rw [inV_int]
        have em : (if hat hs x2 < hat hs x1 then hat hs x2 else hat hs x1) = min (hat hs x1) (hat hs x2) := by
          rw [Int.min_def]
          split <;> split <;> omega
        rw [em]
        unfold mrg
        by_cases z : h = hat hs x1 ∨ h = hat hs x2
        · have d : decide (h ∈ [hat hs x1, hat hs x2]) = true := decide_eq_true (by simpa using z)
          rw [d, if_pos rfl, if_pos z]
          rfl
        · have d : decide (h ∈ [hat hs x1, hat hs x2]) = false := decide_eq_false (by simpa using z)
          rw [d, if_neg (by decide), if_neg z]
          rfl
      · rw [List.length_map, List.length_map, List.length_take]
        have := line_big
        omega
      · rw [← e0]
        exact ⟨((kG'.trans (Ke.new nb)).trans (Ke.new nc)).over (kG.dom _ hD), by
          rw [upd_ne (ne_of_none gl hD)]
          exact lst_new nc (lst_new nb gl'), upd_same⟩
    · obtain ⟨kG', gl', gD'⟩ := hG'
      rw [List.length_map, List.take_length] at gD'
      exact ⟨_, _, _, _, _, D, rfl, kG', by rw [en]; exact gD'⟩
  · obtain ⟨_, _, _, _, _, l', rfl, kG, gl⟩ := hG
    rw [hT.length, List.take_length] at gl
    exact ⟨_, rfl, q l' G kG gl⟩
theorem ok__law_is_int {P : Program} {w : World} {K : PySem.W.Frag} {mg : Str → Option Value} {base : Heap} {tb : List Addr} {f : Addr} {fd : FuncData} (T : Blt mg) (D__law_is_int : DefAt K mg "_law_is_int" s_law_is_int ["_law_thing", "_law_least", "_law_most"] f fd) (CT : Ktx K mg) :
    FnOk P w K mg base CX0 1 f fd ["_law_thing", "_law_least", "_law_most"] (sp__law_is_int K tb) := by
  refine D__law_is_int.ok sc__law_is_int (fun vs H Q E h => by
    obtain ⟨v, lo, hi, n, rfl, hv, q⟩ := h
    all_goals rfl) fun A outer s H vs Q E hr h => ?_
  obtain ⟨v, lo, hi, n, rfl, hv, q⟩ := h
  refine ⟨_, pss_one (ps_ret (pe_and (pe_callB (isiK (K := K)) (by rfl) T.b_isinstance (by decide +kernel) (pa_cons (pv 0) (pa_cons (pe_bltn (v := .ty "int") (u := .type "int") (by rfl) T.b_int (by decide +kernel) rfl) pa_nil))) (pe_and (pe_not (pe_callB (isiK (K := K)) (by rfl) T.b_isinstance (by decide +kernel) (pa_cons (pv 0) (pa_cons (pe_bltn (v := .ty "bool") (u := .type "bool") (by rfl) T.b_bool (by decide +kernel) rfl) pa_nil)))) (pe_one (pe_chain op_le op_le (pv 1) (pv 0) (pv 2)))))), ?_⟩
  refine ⟨_, rfl, v, _, _, _, _, rfl, .ty _, hv.x, hv.isi (.inl rfl), _, rfl, ?_⟩
  cases hv with
  | int i =>
    refine iteT ⟨_, rfl, _, _, _, _, false, rfl, .ty _, (TyN.int i).x, (TyN.int (H := H) i).isi (.inr (.inl rfl)), false, rfl, true, rfl, iteT ?_⟩
    refine ⟨_, rfl, _, rfl, _, _, rfl, rfl, _, rfl, iteB (fun e => ⟨_, rfl, _, _, rfl, rfl, ?_⟩) (fun e => ?_)⟩
    · have z : isNum (.int i) lo hi = decide (i ≤ hi) := by show (decide (lo ≤ i) && decide (i ≤ hi)) = _; rw [e, Bool.true_and]
      rw [z] at q
      exact q
    · have z : isNum (.int i) lo hi = false := by show (decide (lo ≤ i) && decide (i ≤ hi)) = _; rw [e, Bool.false_and]
      rw [z] at q
      exact q
  | bl b => exact iteT ⟨_, rfl, _, _, _, _, true, rfl, .ty _, (TyN.bl b).x, (TyN.bl (H := H) b).isi (.inr (.inl rfl)), true, rfl, false, rfl, iteF q⟩
  | non => exact iteF q
  | str x => exact iteF q
  | lst h => exact iteF q
  | tup h => exact iteF q
  | dic h => exact iteF q
theorem ok__law_two_trees {P : Program} {w : World} {K : PySem.W.Frag} {mg : Str → Option Value} {base : Heap} {tb : List Addr} {f : Addr} {fd : FuncData} {f__law_next : Addr} {fd__law_next : FuncData} {f__law_tie : Addr} {fd__law_tie : FuncData} {f__law_tree : Addr} {fd__law_tree : FuncData} (T : Blt mg) (D__law_two_trees : DefAt K mg "_law_two_trees" s_law_two_trees ["_law_deck_here", "_law_points", "_law_more"] f fd) (CT : Ktx K mg) (D__law_next : DefAt K mg "_law_next" s_law_next ["_law_deck_here"] f__law_next fd__law_next) (G__law_next : FnOk P w K mg base CX0 1 f__law_next fd__law_next ["_law_deck_here"] (sp__law_next K tb)) (D__law_tie : DefAt K mg "_law_tie" s_law_tie ["_law_deck_here", "_law_points"] f__law_tie fd__law_tie) (G__law_tie : FnOk P w K mg base CX0 2 f__law_tie fd__law_tie ["_law_deck_here", "_law_points"] (sp__law_tie K tb)) (D__law_tree : DefAt K mg "_law_tree" s_law_tree ["_law_deck_here", "_law_points"] f__law_tree fd__law_tree) (G__law_tree : FnOk P w K mg base CX0 2 f__law_tree fd__law_tree ["_law_deck_here", "_law_points"] (sp__law_tree K tb)) :
    FnOk P w K mg base CX0 3 f fd ["_law_deck_here", "_law_points", "_law_more"] (sp__law_two_trees K tb) := by
  refine D__law_two_trees.ok sc__law_two_trees (fun vs H Q E h => by
    obtain ⟨p, M, m, rfl, hd, hM0, hM1, hm0, hm1, q⟩ := h
    all_goals rfl) fun A outer s H vs Q E hr h => ?_
  obtain ⟨p, M, m, rfl, hd, hM0, hM1, hm0, hm1, q⟩ := h
  refine ⟨_, pss_cons (ps_set (i := 3) sc__law_two_trees.nd rfl (.inl rfl) (pe_call G__law_tree (hr.mono (by decide)) (by rfl) D__law_tree.g D__law_tree.F.kp D__law_tree.b .nil pass0 (pa_cons (pv 0) (pa_cons (pv 1) pa_nil))))
     (pss_cons (ps_set (i := 4) sc__law_two_trees.nd rfl (.inl rfl) (pe_call G__law_tree (hr.mono (by decide)) (by rfl) D__law_tree.g D__law_tree.F.kp D__law_tree.b .nil pass0 (pa_cons (pv 0) (pa_cons (pv 1) pa_nil))))
     (pss_cons (ps_setLc (i := 6) (own := [("_law_k", 5)]) rfl sc__law_two_trees.nd rfl rfl (sw_true rfl rfl rfl (by decide +kernel)) (pi_range1 (by rfl) T.b_range (pa_cons (pe_op op_mod (pe_call G__law_next (hr.mono (by decide)) (by rfl) D__law_next.g D__law_next.F.kp D__law_next.b .nil pass0 (pa_cons (pv 0) pa_nil)) (pe_op op_add (pv 2) (pe_int))) pa_nil)) (blkOk_by (own := [("_law_k", 5)]) (N := nm__law_two_trees) (sc := defScope s_law_two_trees) (by decide +kernel)) (fun _ _ _ _ _ => pg_name (i := 5) sc__law_two_trees.nd rfl (.inl rfl)) (fun _ _ _ _ _ => pts_one (pt_cmpR op_gt (pv 1) (pe_int) (nomark _))) (fun _ _ _ _ _ => pe_call G__law_tie (hr.mono (by decide)) (by rfl) D__law_tie.g D__law_tie.F.kp D__law_tie.b .nil pass0 (pa_cons (pv 0) (pa_cons (pv 1) pa_nil))))
     (pss_cons (ps_set (i := 8) sc__law_two_trees.nd rfl (.inl rfl) (pe_op op_cat (pe_op op_cat (pe_lc (own := [("_law_tie_here", 7)]) rfl sc__law_two_trees.nd (pi_list (pv 3)) (blkOk_by (own := [("_law_tie_here", 7)]) (N := nm__law_two_trees) (sc := defScope s_law_two_trees) (by decide +kernel)) (fun _ _ _ _ _ => pg_name (i := 7) sc__law_two_trees.nd rfl (.inl rfl)) (fun _ _ _ _ _ => pts_nil) (fun _ _ _ _ _ => pe_tup (pa_cons (pv 7) (pa_cons (pe_int) pa_nil)))) (pe_lc (own := [("_law_tie_here", 7)]) rfl sc__law_two_trees.nd (pi_list (pv 4)) (blkOk_by (own := [("_law_tie_here", 7)]) (N := nm__law_two_trees) (sc := defScope s_law_two_trees) (by decide +kernel)) (fun _ _ _ _ _ => pg_name (i := 7) sc__law_two_trees.nd rfl (.inl rfl)) (fun _ _ _ _ _ => pts_nil) (fun _ _ _ _ _ => pe_tup (pa_cons (pv 7) (pa_cons (pe_int) pa_nil))))) (pe_lc (own := [("_law_tie_here", 7)]) rfl sc__law_two_trees.nd (pi_list (pv 6)) (blkOk_by (own := [("_law_tie_here", 7)]) (N := nm__law_two_trees) (sc := defScope s_law_two_trees) (by decide +kernel)) (fun _ _ _ _ _ => pg_name (i := 7) sc__law_two_trees.nd rfl (.inl rfl)) (fun _ _ _ _ _ => pts_nil) (fun _ _ _ _ _ => pe_tup (pa_cons (pv 7) (pa_cons (pe_non) pa_nil))))))
     (pss_cons (ps_set (i := 9) sc__law_two_trees.nd rfl (.inl rfl) (pe_op op_mod (pe_call G__law_next (hr.mono (by decide)) (by rfl) D__law_next.g D__law_next.F.kp D__law_next.b .nil pass0 (pa_cons (pv 0) pa_nil)) (pe_callB (call_max2 rfl) (by rfl) T.b_max (by decide +kernel) (pa_cons (pe_int) (pa_cons (pe_callB (lenK (K := K)) (by rfl) T.b_len PySem.boot_len (pa_cons (pv 8) pa_nil)) pa_nil)))))
     (pss_cons (ps_set (i := 8) sc__law_two_trees.nd rfl (.inl rfl) (pe_op op_cat (pe_slice (sl_listK (K := K)) (pv 8) (po_some (pv 9)) po_none) (pe_slice (sl_listK (K := K)) (pv 8) po_none (po_some (pv 9)))))
     (C8.pss_cut (ps_if (pt_cmpR op_eq (pe_op op_mod (pe_call G__law_next (hr.mono (by decide)) (by rfl) D__law_next.g D__law_next.F.kp D__law_next.b .nil pass0 (pa_cons (pv 0) pa_nil)) (pe_int)) (pe_int) (nomark _))
     (pss_one (ps_set (i := 8) sc__law_two_trees.nd rfl (.inl rfl) (pe_op op_cat ((pe_ev (K := K)) (pv 8)) ((pe_od (K := K)) (pv 8)))))
     (pss_nil))
     (pss_one (ps_ret (pe_tup (pa_cons (pe_tup (pa_cons (pv 1) (pa_cons (pe_callTy (tupleK (K := K)) (by rfl) T.b_tuple (by decide +kernel) (pa_cons (pe_lc (own := [("_law_tie_here", 7), ("_law_own", 10)]) rfl sc__law_two_trees.nd (pi_list (pv 8)) (blkOk_by (own := [("_law_tie_here", 7), ("_law_own", 10)]) (N := nm__law_two_trees) (sc := defScope s_law_two_trees) (by decide +kernel)) (fun _ _ _ _ _ => tgtK (K := K) (n := 2) (pgs_cons (pg_name (i := 7) sc__law_two_trees.nd rfl (.inl rfl)) (pgs_cons (pg_name (i := 10) sc__law_two_trees.nd rfl (.inl rfl)) pgs_nil))) (fun _ _ _ _ _ => pts_nil) (fun _ _ _ _ _ => pv 7)) pa_nil)) pa_nil))) (pa_cons (pe_callTy (tupleK (K := K)) (by rfl) T.b_tuple (by decide +kernel) (pa_cons (pe_lc (own := [("_law_tie_here", 7), ("_law_own", 10)]) rfl sc__law_two_trees.nd (pi_list (pv 8)) (blkOk_by (own := [("_law_tie_here", 7), ("_law_own", 10)]) (N := nm__law_two_trees) (sc := defScope s_law_two_trees) (by decide +kernel)) (fun _ _ _ _ _ => tgtK (K := K) (n := 2) (pgs_cons (pg_name (i := 7) sc__law_two_trees.nd rfl (.inl rfl)) (pgs_cons (pg_name (i := 10) sc__law_two_trees.nd rfl (.inl rfl)) pgs_nil))) (fun _ _ _ _ _ => pts_nil) (fun _ _ _ _ _ => pv 10)) pa_nil)) pa_nil))))))))))), ?_⟩
  have LB := line_big
  refine ⟨_, rfl, _, rfl, p, M, rfl, hd, by omega, by omega, fun H1 l1 t1 k1 nl1 g1 hl1 ok1 rl1 => ?_⟩
  refine ⟨_, rfl, _, rfl, p, M, rfl, k1.d, by omega, by omega, fun H2 l2 t2 k2 nl2 g2 hl2 ok2 rl2 => ?_⟩
  obtain ⟨rs1, g1, ht1⟩ := g1
  obtain ⟨rs2, g2, ht2⟩ := g2
  have d1 := k1.d
  have d2 := k2.d
  have n1p : l1 ≠ p := (hd.ne nl1).symm
  have n2p : l2 ≠ p := (d1.ne nl2).symm
  have g12 := k2.lst g1 n1p
  replace ht1 := ht1.dk k2 d1
  have k12 := k1.trans k2
  refine ⟨_, rfl, p, rfl, d2, fun r H3 r0 r1 k3 => ?_⟩
  have e1 := emod_bds r (n := m + 1) (by omega)
  refine ⟨_, rfl, _, _, rfl, rfl, _, _, rfl, rfl, by omega, _, rfl, by omega, by omega, fun D hD => ?_⟩
  have nDp : D ≠ p := (k3.d.ne hD).symm
  refine lc_range (lo := 0) (n := (r % (m + 1)).toNat) (fun i G => ∃ (rs : List V) (ts : List (Int × Int)), G D = some (.lst rs) ∧ Ties G rs ts ∧ ts.length ≤ i ∧ TOk M ts ∧ Dk p H3 G) ⟨[], [], upd_same, .nil, Nat.le_refl 0, TOk.nil, (Dk.refl k3.d).over k3.d hD⟩ (fun i G hi hG => ?_) (fun G hG => ?_)
  · obtain ⟨rs, ts, gD, gT, hl, hok, kG⟩ := hG
    refine ⟨rfl, _, rfl, _, _, rfl, rfl, _, rfl, ?_⟩
    refine iteB (fun hb1 => ?_) (fun _ => ⟨rs, ts, gD, gT, by omega, hok, kG⟩)
    have hM1' : 2 ≤ M := by have := of_decide_eq_true hb1; omega
    refine ⟨_, rfl, _, rfl, p, M, rfl, kG.d, hM1', fun a b t G1 a0 ab b1 kG1 nt => ?_⟩
    have gD1 : G1 D = some (.lst rs) := kG1.lst gD nDp
    have gD2 : upd G1 t (.tup [.int a, .int b]) D = some (.lst rs) := by rw [upd_ne (ne_of_none gD1 nt)]; exact gD1
    refine ⟨rs, gD2, ?_, rs ++ [.ref t], ts ++ [(a, b)], upd_same, ((((gT.dk kG1 kG.d).new nt).append (Ties.one upd_same)).put gD2), by rw [List.length_append]; show ts.length + 1 ≤ i + 1; omega, hok.append (TOk.one a0 ab b1), ((kG.trans kG1).new nt).over k3.d hD⟩
    have := gT.length
    omega
  obtain ⟨rs3, t3, g3, ht3, hl3, ok3, kG3⟩ := hG
  have k33 := k3.trans kG3
  have b1 := k33.lst g12 n1p
  have b2 := k33.lst g2 n2p
  replace ht1 := ht1.dk k33 d2
  replace ht2 := ht2.dk k33 d2
  have kB0 := k12.trans k33
  clear k3 kG3 k33 g12 g2 g1 k12 k1 k2
  generalize G = B1 at *
  have hr1 := ht1.length
  have hr2 := ht2.length
  have hr3 := ht3.length
  refine ⟨_, rfl, l1, rfl, ⟨_, sqL_of b1⟩, fun D1 nD1 => ?_⟩
  refine lc_it (walk_list (K := K) (a := l1) (xs := rs1)) (fun i G => Ke B1 G ∧ ∃ ys, G D1 = some (.lst ys) ∧ Prs G ys ((t1.take i).map fun t => (t, (.int 0 : V)))) ⟨Ke.new nD1, [], upd_same, .nil⟩ (fun i G _ hG => sqL_of (hG.1.lst b1)) (fun i x G G' hi hG hy => ?_) (fun G hG => ?_)
  · obtain ⟨kG, ys, gD, hP⟩ := hG
    obtain ⟨rfl, hx⟩ := hy
    obtain ⟨tt, e, hti, rfl, he⟩ := ht1.get hx
    have hyl := hP.length
    rw [List.length_map, List.length_take] at hyl
    have hil := (List.getElem?_eq_some_iff.mp hti).1
    refine ⟨rfl, yes_ite ?_⟩
    refine ⟨_, rfl, by show 2 ≤ sizeLine; decide, fun c nc => ?_⟩
    have gD2 := lst_new (o := .tup [.ref e, .int 0]) nc gD
    have tk : ∀ q ys', (upd G' c (.tup [.ref e, .int 0])) q = some (.tup ys') → (upd (upd G' c (.tup [.ref e, .int 0])) D1 (.lst (ys ++ [.ref c]))) q = some (.tup ys') := fun q ys' z => by rw [upd_ne (ne_of z gD2 fun y => nomatch y)]; exact z
    refine ⟨ys, gD2, by omega, (kG.trans (Ke.new nc)).over nD1, ys ++ [.ref c], upd_same, ?_⟩
    rw [take_next hti, List.map_append]
    exact ((hP.new nc).mono tk).append (Prs.one (tk _ _ upd_same) (tk _ _ (tup_new nc (Ke.tup kG he))) (.inr ⟨_, rfl⟩))
  obtain ⟨kc1, ys1, gD1, hP1⟩ := hG
  rw [ht1.length, List.take_length] at hP1
  have B2e : ∃ B2, B2 = G := ⟨_, rfl⟩
  obtain ⟨B2, eB2⟩ := B2e
  rw [← eB2] at kc1 gD1 hP1
  have b22 := Ke.lst kc1 b2
  have g32 := Ke.lst kc1 g3
  replace ht2 := ht2.ke kc1
  replace ht3 := ht3.ke kc1
  rw [← eB2]
  refine ⟨_, rfl, l2, rfl, ⟨_, sqL_of b22⟩, fun D2 nD2 => ?_⟩
  refine lc_it (walk_list (K := K) (a := l2) (xs := rs2)) (fun i G => Ke B2 G ∧ ∃ ys, G D2 = some (.lst ys) ∧ Prs G ys ((t2.take i).map fun t => (t, (.int 1 : V)))) ⟨Ke.new nD2, [], upd_same, .nil⟩ (fun i G _ hG => sqL_of (hG.1.lst b22)) (fun i x G G' hi hG hy => ?_) (fun G hG => ?_)
  · obtain ⟨kG, ys, gD, hP⟩ := hG
    obtain ⟨rfl, hx⟩ := hy
    obtain ⟨tt, e, hti, rfl, he⟩ := ht2.get hx
    have hyl := hP.length
    rw [List.length_map, List.length_take] at hyl
    have hil := (List.getElem?_eq_some_iff.mp hti).1
    refine ⟨rfl, yes_ite ?_⟩
    refine ⟨_, rfl, by show 2 ≤ sizeLine; decide, fun c nc => ?_⟩
    have gD2 := lst_new (o := .tup [.ref e, .int 1]) nc gD
    have tk : ∀ q ys', (upd G' c (.tup [.ref e, .int 1])) q = some (.tup ys') → (upd (upd G' c (.tup [.ref e, .int 1])) D2 (.lst (ys ++ [.ref c]))) q = some (.tup ys') := fun q ys' z => by rw [upd_ne (ne_of z gD2 fun y => nomatch y)]; exact z
    refine ⟨ys, gD2, by omega, (kG.trans (Ke.new nc)).over nD2, ys ++ [.ref c], upd_same, ?_⟩
    rw [take_next hti, List.map_append]
    exact ((hP.new nc).mono tk).append (Prs.one (tk _ _ upd_same) (tk _ _ (tup_new nc (Ke.tup kG he))) (.inr ⟨_, rfl⟩))
  obtain ⟨kc2, ys2, gD2, hP2⟩ := hG
  rw [ht2.length, List.take_length] at hP2
  have B3e : ∃ B3, B3 = G := ⟨_, rfl⟩
  obtain ⟨B3, eB3⟩ := B3e
  rw [← eB3] at kc2 gD2 hP2
  have g33 := Ke.lst kc2 g32
  replace ht3 := ht3.ke kc2
  replace hP1 := hP1.ke kc2
  replace gD1 := Ke.lst kc2 gD1
  rw [← eB3]
  have hq1 := hP1.length
  have hq2 := hP2.length
  rw [List.length_map] at hq1 hq2
  refine ⟨D1, D2, _, _, rfl, rfl, gD1, gD2, by omega, fun l4 nl4 => ?_⟩
  have kc3' := Ke.new (S := fun _ => False) (o := .lst (ys1 ++ ys2)) nl4
  have b33 := Ke.lst kc3' g33
  replace ht3 := ht3.ke kc3'
  have hP12 := (hP1.ke kc3').append (hP2.ke kc3')
  have g4 : (upd B3 l4 (.lst (ys1 ++ ys2))) l4 = some (.lst (ys1 ++ ys2)) := upd_same
  have kB3 := ((kB0.ke kc1).ke kc2).ke kc3'
  clear gD1 gD2 hP1 hP2 kc1 kc2 kc3' kB0
  generalize upd B3 l4 _ = B3 at *
  refine ⟨_, rfl, D, rfl, ⟨_, sqL_of b33⟩, fun D3 nD3 => ?_⟩
  refine lc_it (walk_list (K := K) (a := D) (xs := rs3)) (fun i G => Ke B3 G ∧ ∃ ys, G D3 = some (.lst ys) ∧ Prs G ys ((t3.take i).map fun t => (t, (.non : V)))) ⟨Ke.new nD3, [], upd_same, .nil⟩ (fun i G _ hG => sqL_of (hG.1.lst b33)) (fun i x G G' hi hG hy => ?_) (fun G hG => ?_)
  · obtain ⟨kG, ys, gD, hP⟩ := hG
    obtain ⟨rfl, hx⟩ := hy
    obtain ⟨tt, e, hti, rfl, he⟩ := ht3.get hx
    have hyl := hP.length
    rw [List.length_map, List.length_take] at hyl
    have hil := (List.getElem?_eq_some_iff.mp hti).1
    refine ⟨rfl, yes_ite ?_⟩
    refine ⟨_, rfl, by show 2 ≤ sizeLine; decide, fun c nc => ?_⟩
    have gD2 := lst_new (o := .tup [.ref e, .non]) nc gD
    have tk : ∀ q ys', (upd G' c (.tup [.ref e, .non])) q = some (.tup ys') → (upd (upd G' c (.tup [.ref e, .non])) D3 (.lst (ys ++ [.ref c]))) q = some (.tup ys') := fun q ys' z => by rw [upd_ne (ne_of z gD2 fun y => nomatch y)]; exact z
    refine ⟨ys, gD2, by omega, (kG.trans (Ke.new nc)).over nD3, ys ++ [.ref c], upd_same, ?_⟩
    rw [take_next hti, List.map_append]
    exact ((hP.new nc).mono tk).append (Prs.one (tk _ _ upd_same) (tk _ _ (tup_new nc (Ke.tup kG he))) (.inl rfl))
  obtain ⟨kc3, ys3, gD3, hP3⟩ := hG
  rw [ht3.length, List.take_length] at hP3
  replace g4 := Ke.lst kc3 g4
  replace hP12 := hP12.ke kc3
  have hq3 := hP3.length
  rw [List.length_map] at hq3
  refine ⟨l4, D3, _, _, rfl, rfl, g4, gD3, by rw [List.length_append]; omega, fun l5 nl5 => ?_⟩
  have kc4 := Ke.new (S := fun _ => False) (o := .lst ((ys1 ++ ys2) ++ ys3)) nl5
  have hP := (hP12.append hP3).ke kc4
  have g5 : (upd G l5 (.lst ((ys1 ++ ys2) ++ ys3))) l5 = some (.lst ((ys1 ++ ys2) ++ ys3)) := upd_same
  have kB4 := (kB3.ke kc3).ke kc4
  have n5p : l5 ≠ p := ((kB3.ke kc3).d.ne nl5).symm
  generalize upd G l5 _ = G5 at *
  have hSt := (((StoodP.nil (n := M)).tree' ok1 rl1 hl1 (Int.le_refl 0)).tree' ok2 rl2 hl2 (by decide)).more ok3
  have hokA : TOk M ((t1 ++ t2) ++ t3) := (ok1.append ok2).append ok3
  have hlA : (((t1 ++ t2) ++ t3).length : Int) ≤ 2 * M + m := by
    rw [List.length_append, List.length_append]
    have := emod_bds r (n := m + 1) (by omega)
    omega
  have hyl : ((ys1 ++ ys2) ++ ys3).length ≤ 1000 := by rw [List.length_append, List.length_append]; omega
  clear hP12 hP3 g4 gD3 kc3 kc4 nl5 nl4 b33 g33 hq1 hq2 hq3
  have hpsl : (((([] : List TV) ++ t1.map fun t => (t, V.int 0)) ++ t2.map fun t => (t, V.int (0 + 1))) ++ t3.map fun t => (t, V.non)) = ((t1.map fun t => (t, V.int 0)) ++ t2.map fun t => (t, V.int 1)) ++ t3.map fun t => (t, V.non) := by simp
  rw [hpsl] at hSt
  have hmm : ((((t1.map fun t => (t, V.int 0)) ++ t2.map fun t => (t, V.int 1)) ++ t3.map fun t => (t, V.non)) : List TV).map Prod.fst = (t1 ++ t2) ++ t3 := by simp [List.map_map, Function.comp_def]
  clear hpsl
  generalize ((((t1.map fun t => (t, V.int 0)) ++ t2.map fun t => (t, V.int 1)) ++ t3.map fun t => (t, V.non)) : List TV) = ps at *
  generalize (ys1 ++ ys2) ++ ys3 = ys at *
  generalize (t1 ++ t2) ++ t3 = ts at *
  refine ⟨_, rfl, p, rfl, kB4.d, fun r7 H7 r70 r71 k7 => ?_⟩
  have g57 := k7.lst g5 n5p
  refine ⟨_, rfl, l5, _, rfl, .inl (sqL_of g57), _, _, rfl, _, _, rfl, rfl, by show (0 : Int) < if (ys.length : Int) > 1 then (ys.length : Int) else 1; split <;> omega, ?_⟩
  have e7 := emod_bds r7 (n := if (ys.length : Int) > 1 then (ys.length : Int) else 1) (by split <;> omega)
  show gName 9 (V.int (r7 % (if (ys.length : Int) > 1 then (ys.length : Int) else 1))) _ _ _
  generalize r7 % (if (ys.length : Int) > 1 then (ys.length : Int) else 1) = d at *
  have hPs7 := hP.dk k7 kB4.d
  have K7 := kB4.trans k7
  refine ⟨_, rfl, _, rfl, _, rfl, l5, _, rfl, sqL_of g57, fun a1 na1 => ?_⟩
  have j1 := Ke.new (S := fun _ => False) (o := .lst (cutV ys (some d) none)) na1
  have gl6 := lst_new (o := .lst (cutV ys (some d) none)) na1 g57
  have ga1 : (upd H7 a1 (.lst (cutV ys (some d) none))) a1 = some (.lst (cutV ys (some d) none)) := upd_same
  generalize upd H7 a1 _ = H8 at *
  refine ⟨_, rfl, _, rfl, _, rfl, l5, _, rfl, sqL_of gl6, fun a2 na2 => ?_⟩
  have j2 := j1.trans (Ke.new (o := .lst (cutV ys none (some d))) na2)
  have ga17 := lst_new (o := .lst (cutV ys none (some d))) na2 ga1
  have ga2 : (upd H8 a2 (.lst (cutV ys none (some d)))) a2 = some (.lst (cutV ys none (some d))) := upd_same
  generalize upd H8 a2 _ = H9 at *
  rw [cut_from' _ e7.1] at ga17
  rw [cut_to' _ e7.1] at ga2
  have hpm : (ys.drop d.toNat ++ ys.take d.toNat).Perm ys := by
    refine List.perm_append_comm.trans ?_
    rw [List.take_append_drop]
  have hdl := hpm.length_eq
  rw [List.length_append] at hdl
  refine ⟨a1, a2, _, _, rfl, rfl, ga17, ga2, by omega, fun l6 nl6 => ?_⟩
  have j3 := j2.trans (Ke.new (o := .lst (ys.drop d.toNat ++ ys.take d.toNat)) nl6)
  have gl7 : (upd H9 l6 (.lst (ys.drop d.toNat ++ ys.take d.toNat))) l6 = some (.lst (ys.drop d.toNat ++ ys.take d.toNat)) := upd_same
  have n6p : l6 ≠ p := ((K7.ke j2).d.ne nl6).symm
  have K8 := K7.ke j3
  have hPs8 := hPs7.ke j3
  clear ga17 ga2 gl6 ga1 j1 j2 j3 hPs7 K7
  generalize upd H9 l6 _ = HA at *
  generalize ys.drop d.toNat ++ ys.take d.toNat = zs at *
  refine ⟨fun σ G => ∃ (lo : Addr) (us : List V), σ = [some (.ref p), some (.int M), some (.int m), some (.ref l1), some (.ref l2), none, some (.ref D), none, some (.ref lo), some (.int d), none] ∧ Dk p H G ∧ G lo = some (.lst us) ∧ us.Perm ys ∧ Prs G ys ps, ?_, fun σ G hG => ?_⟩
  · refine ⟨_, rfl, p, rfl, K8.d, fun r9 HB r90 r91 k9 => ?_⟩
    have gB := k9.lst gl7 n6p
    have hPB := hPs8.dk k9 K8.d
    refine ⟨_, _, rfl, rfl, by show (0 : Int) < 2; decide, rfl, _, rfl, iteB (fun _ => ?_) (fun _ => ?_)⟩
    · refine ⟨_, rfl, l6, _, rfl, sqL_of gB, fun a1 na1 => ?_⟩
      have h1 := lst_new (o := .lst (ev2 zs)) na1 gB
      have h2 : (upd HB a1 (.lst (ev2 zs))) a1 = some (.lst (ev2 zs)) := upd_same
      have j1 := Ke.new (S := fun _ => False) (o := .lst (ev2 zs)) na1
      generalize upd HB a1 _ = G1 at *
      refine ⟨_, rfl, l6, _, rfl, sqL_of h1, fun a2 na2 => ?_⟩
      have h3 := lst_new (o := .lst (ev2 zs.tail)) na2 h2
      have h4 : (upd G1 a2 (.lst (ev2 zs.tail))) a2 = some (.lst (ev2 zs.tail)) := upd_same
      have j2 := j1.trans (Ke.new (o := .lst (ev2 zs.tail)) na2)
      generalize upd G1 a2 _ = G2 at *
      have hel := ev2_len zs
      have hzl := hpm.length_eq
      refine ⟨a1, a2, _, _, rfl, rfl, h3, h4, by omega, fun l3 nl3 => ?_⟩
      have j3 := j2.trans (Ke.new (o := .lst (ev2 zs ++ ev2 zs.tail)) nl3)
      exact ⟨l3, ev2 zs ++ ev2 zs.tail, rfl, (K8.trans k9).ke j3, upd_same, (ev2_perm zs).trans hpm, hPB.ke j3⟩
    · exact ⟨l6, zs, rfl, K8.trans k9, gB, hpm, hPB⟩
  obtain ⟨lo, vs, rfl, kC, glo, hvp, hPC⟩ := hG
  obtain ⟨us, hU, hup⟩ := Prs.perm hvp hPC
  have hut : (us.map Prod.fst).Perm ts := by rw [← hmm]; exact hup.map _
  have hul := hU.length
  have hvl := hvp.length_eq
  refine ⟨_, rfl, _, rfl, lo, rfl, ⟨_, sqL_of glo⟩, fun E1 nE1 => ?_⟩
  refine lc_it (walk_list (K := K) (a := lo) (xs := vs)) (fun i J => Ke G J ∧ ∃ xs, J E1 = some (.lst xs) ∧ xs.length = i ∧ Ties J xs ((us.map Prod.fst).take i)) ⟨Ke.new nE1, [], upd_same, rfl, .nil⟩ (fun i J _ hG => sqL_of (hG.1.lst glo)) (fun i x J J' hi hG hy => ?_) (fun J hG => ?_)
  · obtain ⟨kG, xs, gD, hxl, hX⟩ := hG
    obtain ⟨rfl, hx⟩ := hy
    obtain ⟨pq, e, t, hti, rfl, he, ht, ho⟩ := hU.get hx
    refine ⟨e, _, rfl, sqT_of (kG.tup he), rfl, _, _, rfl, _, [], rfl, rfl, rfl, yes_ite ?_⟩
    refine ⟨_, rfl, xs, gD, by omega, kG.over nE1, xs ++ [.ref t], upd_same, by rw [List.length_append, hxl]; rfl, ?_⟩
    have tk : ∀ q ys', J' q = some (.tup ys') → (upd J' E1 (.lst (xs ++ [.ref t]))) q = some (.tup ys') := fun q ys' z => by rw [upd_ne (ne_of z gD fun y => nomatch y)]; exact z
    rw [take_next (by rw [List.getElem?_map, hti]; rfl)]
    exact (hX.mono tk).append (Ties.one (tk _ _ (kG.tup ht)))
  obtain ⟨kG, xs, gD, hxl, hX⟩ := hG
  rw [show vs.length = (us.map Prod.fst).length by rw [List.length_map]; exact hul, List.take_length] at hX
  refine ⟨E1, _, rfl, .inl ⟨sqL_of gD, fun w nw => ?_⟩⟩
  refine ⟨by show 2 ≤ sizeLine; decide, fun v nv => ?_⟩
  have j5 := (Ke.new (S := fun _ => False) (o := .tup xs) nw).trans (Ke.new (o := .tup [.int M, .ref w]) nv)
  have WV : Web (upd (upd J w (.tup xs)) v (.tup [.int M, .ref w])) (.ref v) M (us.map Prod.fst) := ⟨v, w, xs, rfl, upd_same, tup_new nv upd_same, hX.ke j5⟩
  have kJ := kG.trans j5
  have glo2 := Ke.lst kJ glo
  have hU2 := hU.ke kJ
  have kD := kC.ke kJ
  generalize upd (upd J w _) v _ = J2 at *
  refine ⟨_, rfl, lo, rfl, ⟨_, sqL_of glo2⟩, fun E2 nE2 => ?_⟩
  refine lc_it (walk_list (K := K) (a := lo) (xs := vs)) (fun i J => Ke J2 J ∧ J E2 = some (.lst ((us.map Prod.snd).take i))) ⟨Ke.new nE2, upd_same⟩ (fun i J _ hG => sqL_of (hG.1.lst glo2)) (fun i x J J' hi hG hy => ?_) (fun J hG => ?_)
  · obtain ⟨kG, gD⟩ := hG
    obtain ⟨rfl, hx⟩ := hy
    obtain ⟨pq, e, t, hti, rfl, he, ht, ho⟩ := hU2.get hx
    refine ⟨e, _, rfl, sqT_of (kG.tup he), rfl, _, _, rfl, _, [], rfl, rfl, rfl, yes_ite ?_⟩
    refine ⟨_, rfl, _, gD, by rw [List.length_take]; omega, kG.over nE2, ?_⟩
    rw [take_next (by rw [List.getElem?_map, hti]; rfl)]
    exact upd_same
  obtain ⟨kG, gD2⟩ := hG
  rw [show vs.length = (us.map Prod.snd).length by rw [List.length_map]; exact hul, List.take_length] at gD2
  refine ⟨E2, _, rfl, .inl ⟨sqL_of gD2, fun w2 nw2 => ?_⟩⟩
  refine ⟨by show 2 ≤ sizeLine; decide, fun z nz => ?_⟩
  have j6 := kG.trans ((Ke.new (o := .tup (us.map Prod.snd)) nw2).trans (Ke.new (o := .tup [.ref v, .ref w2]) nz))
  refine q _ z v w2 (us.map Prod.fst) (us.map Prod.snd) (kD.ke j6) upd_same (WV.ke j6) ?_ (tup_new nz upd_same) (hSt.perm hup).stood
  rw [hut.length_eq]
  exact hlA
theorem ok__law_joins_all {P : Program} {w : World} {K : PySem.W.Frag} {mg : Str → Option Value} {base : Heap} {tb : List Addr} {f : Addr} {fd : FuncData} {f__law_heads : Addr} {fd__law_heads : FuncData} (T : Blt mg) (D__law_joins_all : DefAt K mg "_law_joins_all" s_law_joins_all ["_law_web", "_law_ties"] f fd) (CT : Ktx K mg) (D__law_heads : DefAt K mg "_law_heads" s_law_heads ["_law_points", "_law_ties"] f__law_heads fd__law_heads) (G__law_heads : FnOk P w K mg base CX0 1 f__law_heads fd__law_heads ["_law_points", "_law_ties"] (sp__law_heads K tb)) :
    FnOk P w K mg base CX0 2 f fd ["_law_web", "_law_ties"] (sp__law_joins_all K tb) := by
  refine D__law_joins_all.ok sc__law_joins_all (fun vs H Q E h => by
    obtain ⟨v, n, ts, u, ns, rfl, W, hok, hn0, hn1, hu, hns, hlen, q⟩ := h
    all_goals rfl) fun A outer s H vs Q E hr h => ?_
  obtain ⟨v, n, ts, u, ns, rfl, W, hok, hn0, hn1, hu, hns, hlen, q⟩ := h
  refine ⟨_, pss_one (ps_ret (pe_cmpR op_eq (pe_lenSetL (by rfl) T.b_len (by rfl) T.b_set (pe_call G__law_heads (hr.mono (by decide)) (by rfl) D__law_heads.g D__law_heads.F.kp D__law_heads.b .nil pass0 (pa_cons (pe_ix (ix_tupK (K := K)) (pv 0) (pe_int) (fun _ _ => rfl)) (pa_cons (pe_lc (own := [("_law_tie_here", 2)]) rfl sc__law_joins_all.nd (pi_tup (pv 1)) (blkOk_by (own := [("_law_tie_here", 2)]) (N := nm__law_joins_all) (sc := defScope s_law_joins_all) (by decide +kernel)) (fun _ _ _ _ _ => pg_name (i := 2) sc__law_joins_all.nd rfl (.inl rfl)) (fun _ _ _ _ _ => pts_nil) (fun _ _ _ _ _ => pe_ix (ix_tupK (K := K)) (pe_ix (ix_tupK (K := K)) (pv 0) (pe_int) (fun _ _ => rfl)) (pv 2) (fun _ _ => rfl))) pa_nil)))) (pe_int) (nomark _))), ?_⟩
  have LB := line_big
  obtain ⟨tw, wu, rs, rfl, htw, hwu, hT⟩ := id W
  refine ⟨_, rfl, tw, _, 0, _, rfl, rfl, sqT_of htw, atI_nat (j := 0) rfl, ?_⟩
  refine ⟨_, rfl, u, rfl, ⟨_, sqT_of hu⟩, fun D nD => ?_⟩
  refine lc_it (walk_tup (K := K) (a := u) (xs := ns.map V.int)) (fun i G => Ke H G ∧ ∃ xs, G D = some (.lst xs) ∧ Ties G xs (pick ts (ns.take i))) ⟨Ke.new nD, [], upd_same, .nil⟩ (fun i G _ hG => sqT_of (hG.1.tup hu)) (fun i x G G' hi hG hy => ?_) (fun G hG => ?_)
  · obtain ⟨kG, xs, gD, hX⟩ := hG
    obtain ⟨rfl, hx⟩ := hy
    obtain ⟨m, hm0, rfl⟩ := int_at hx
    obtain ⟨m0, m1⟩ := hns m (List.mem_of_getElem? hm0)
    obtain ⟨e, he, hq⟩ := hT.at_ m0 m1
    have hxl := hX.length
    rw [pick_length, List.length_take] at hxl
    rw [List.length_map] at hi
    refine ⟨rfl, yes_ite ?_⟩
    refine ⟨_, rfl, tw, _, 1, _, rfl, rfl, sqT_of (kG.tup htw), atI_nat (j := 1) rfl, _, rfl, wu, _, m, _, rfl, rfl, sqT_of (kG.tup hwu), he, ?_⟩
    refine ⟨xs, gD, by omega, kG.over nD, xs ++ [.ref e], upd_same, ?_⟩
    rw [take_next hm0, pick_append]
    have tk : ∀ q ys, G' q = some (.tup ys) → (upd G' D (.lst (xs ++ [.ref e]))) q = some (.tup ys) := fun q ys z => by rw [upd_ne (ne_of z gD fun y => nomatch y)]; exact z
    exact (hX.mono tk).append (Ties.one (tk _ _ (kG.tup hq)))
  · obtain ⟨kG, xs, gD, hX⟩ := hG
    rw [List.length_map, List.take_length] at hX
    refine ⟨n, D, xs, _, rfl, gD, hX, pickM_ok hok hns, by omega, by omega, fun l H1 k1 hl => ?_⟩
    refine ⟨l, _, rfl, sqL_of hl, ?_, ?_⟩
    · rw [headsF_length, upTo_length]
      omega
    refine ⟨rfl, ?_⟩
    have q1 := q H1 (kG.trans k1)
    rw [decide_int]
    have ed : decide ((((nub (headsF (upTo n) (pick ts ns))).length : Nat) : Int) = 1) = decide ((nub (headsF (upTo n) (pick ts ns))).length = 1) := decide_eq_decide.mpr ⟨fun h => by omega, fun h => by omega⟩
    rw [ed]
    exact q1
theorem ok__law_is_tree {P : Program} {w : World} {K : PySem.W.Frag} {mg : Str → Option Value} {base : Heap} {tb : List Addr} {f : Addr} {fd : FuncData} {f__law_joins_all : Addr} {fd__law_joins_all : FuncData} (T : Blt mg) (D__law_is_tree : DefAt K mg "_law_is_tree" s_law_is_tree ["_law_web", "_law_ties"] f fd) (CT : Ktx K mg) (D__law_joins_all : DefAt K mg "_law_joins_all" s_law_joins_all ["_law_web", "_law_ties"] f__law_joins_all fd__law_joins_all) (G__law_joins_all : FnOk P w K mg base CX0 2 f__law_joins_all fd__law_joins_all ["_law_web", "_law_ties"] (sp__law_joins_all K tb)) :
    FnOk P w K mg base CX0 3 f fd ["_law_web", "_law_ties"] (sp__law_is_tree K tb) := by
  refine D__law_is_tree.ok sc__law_is_tree (fun vs H Q E h => by
    obtain ⟨v, n, ts, u, ns, rfl, W, hok, hn0, hn1, hu, hns, hlen, hF, hl, q⟩ := h
    all_goals rfl) fun A outer s H vs Q E hr h => ?_
  obtain ⟨v, n, ts, u, ns, rfl, W, hok, hn0, hn1, hu, hns, hlen, hF, hl, q⟩ := h
  refine ⟨_, pss_one (ps_ret (pe_and (pe_cmpR op_eq (pe_callB (lenK (K := K)) (by rfl) T.b_len PySem.boot_len (pa_cons (pv 1) pa_nil)) (pe_op op_sub (pe_ix (ix_tupK (K := K)) (pv 0) (pe_int) (fun _ _ => rfl)) (pe_int)) (nomark _)) (pe_one (pe_call G__law_joins_all (hr.mono (by decide)) (by rfl) D__law_joins_all.g D__law_joins_all.F.kp D__law_joins_all.b .nil pass0 (pa_cons (pv 0) (pa_cons (pv 1) pa_nil)))))), ?_⟩
  have LB := line_big
  obtain ⟨tw, wu, rs, rfl, htw, hwu, hT⟩ := id W
  refine ⟨_, rfl, u, _, rfl, .inr (sqT_of hu), _, rfl, tw, _, 0, _, rfl, rfl, sqT_of htw, atI_nat (j := 0) rfl, _, _, rfl, rfl, rfl, ?_⟩
  rw [List.length_map, decide_int, decide_eq_true hl]
  refine ⟨_, rfl, (if_pos rfl).mpr ?_⟩
  refine ⟨_, rfl, _, rfl, .ref tw, n, ts, u, ns, rfl, W, hok, hn0, hn1, hu, hns, hlen, fun H1 k1 => ?_⟩
  have h := heads_num (by omega) (pickM_ok hok hns) hF.rl
  rw [pick_length] at h
  rw [decide_eq_true (by omega)]
  exact q H1 k1
theorem ok__law_are_ties {P : Program} {w : World} {K : PySem.W.Frag} {mg : Str → Option Value} {base : Heap} {tb : List Addr} {f : Addr} {fd : FuncData} {f__law_is_int : Addr} {fd__law_is_int : FuncData} (T : Blt mg) (D__law_are_ties : DefAt K mg "_law_are_ties" s_law_are_ties ["_law_web", "_law_thing"] f fd) (CT : Ktx K mg) (D__law_is_int : DefAt K mg "_law_is_int" s_law_is_int ["_law_thing", "_law_least", "_law_most"] f__law_is_int fd__law_is_int) (G__law_is_int : FnOk P w K mg base CX0 1 f__law_is_int fd__law_is_int ["_law_thing", "_law_least", "_law_most"] (sp__law_is_int K tb)) :
    FnOk P w K mg base CX0 2 f fd ["_law_web", "_law_thing"] (sp__law_are_ties K tb) := by
  refine D__law_are_ties.ok sc__law_are_ties (fun vs H Q E h => by
    obtain ⟨v, n, ts, u, ns, rfl, W, hu, hns, hup, hlen, q⟩ := h
    all_goals rfl) fun A outer s H vs Q E hr h => ?_
  obtain ⟨v, n, ts, u, ns, rfl, W, hu, hns, hup, hlen, q⟩ := h
  refine ⟨_, pss_cons (ps_if (pt_not (pt_val (pe_callB (isiK (K := K)) (by rfl) T.b_isinstance (by decide +kernel) (pa_cons (pv 1) (pa_cons (pe_bltn (v := .ty "tuple") (u := .type "tuple") (by rfl) T.b_tuple (by decide +kernel) rfl) pa_nil)))))
     (pss_one (ps_ret (pe_bl)))
     (pss_nil))
     (pss_cons (ps_if (pt_cmpR (neDK (K := K) hr.units) (pe_lc (own := [("_law_tie_here", 2)]) rfl sc__law_are_ties.nd (pi_tup (pv 1)) (blkOk_by (own := [("_law_tie_here", 2)]) (N := nm__law_are_ties) (sc := defScope s_law_are_ties) (by decide +kernel)) (fun _ _ _ _ _ => pg_name (i := 2) sc__law_are_ties.nd rfl (.inl rfl)) (fun _ _ _ _ _ => pts_one (pt_not (pt_val (pe_call G__law_is_int (hr.mono (by decide)) (by rfl) D__law_is_int.g D__law_is_int.F.kp D__law_is_int.b .nil pass0 (pa_cons (pv 2) (pa_cons (pe_int) (pa_cons (pe_op op_sub (pe_callB (lenK (K := K)) (by rfl) T.b_len PySem.boot_len (pa_cons (pe_ix (ix_tupK (K := K)) (pv 0) (pe_int) (fun _ _ => rfl)) pa_nil)) (pe_int)) pa_nil))))))) (fun _ _ _ _ _ => pv 2)) (pe_lst pa_nil) (nomark _))
     (pss_one (ps_ret (pe_bl)))
     (pss_nil))
     (pss_one (ps_ret (pe_cmpR (eqDK (K := K) hr.units) (pe_callTy (listK (K := K)) (by rfl) T.b_list (by decide +kernel) (pa_cons (pv 1) pa_nil)) (pe_callB (cr_sortedSetB rfl) (by rfl) T.b_sorted (by decide +kernel) (pa_cons (pe_callTy (cr_setT rfl) (by rfl) T.b_set (by decide +kernel) (pa_cons (pv 1) pa_nil)) pa_nil)) (nomark _))))), ?_⟩
  have LB := line_big
  obtain ⟨tw, wu, rs, rfl, htw, hwu, hT⟩ := id W
  have hrl := hT.length
  refine ⟨_, rfl, _, _, _, _, true, rfl, .ty _, (TyN.tup hu).x, isi_yes, true, rfl, iteF ?_⟩
  refine ⟨_, rfl, u, rfl, ⟨_, sqT_of hu⟩, fun D hD => ?_⟩
  refine lc_tup (K := K) (a := u) (xs := ns.map V.int) (fun j G => Ke H G ∧ G D = some (.lst (([] : List Int).map V.int))) ⟨Ke.new hD, upd_same⟩ (fun j G _ hG => ?_) (fun j x G hx' hG => ?_) (fun G hG => ?_)
  · exact sqT_of (hG.1.tup hu)
  · obtain ⟨kG, gD⟩ := hG
    obtain ⟨y, hy, rfl⟩ := int_at hx'
    obtain ⟨y0, y1⟩ := hns y (List.mem_of_getElem? hy)
    refine ⟨rfl, _, rfl, _, rfl, tw, _, 1, _, rfl, rfl, sqT_of (kG.tup htw), atI_nat (j := 1) rfl, wu, _, rfl, .inr (sqT_of (kG.tup hwu)), _, _, rfl, rfl, .int y, 0, _, "int", rfl, .int y, ?_⟩
    rw [show isNum (.int y) 0 ((rs.length : Int) - 1) = true by show (decide (0 ≤ y) && decide (y ≤ (rs.length : Int) - 1)) = true; rw [decide_eq_true y0, decide_eq_true (by omega : y ≤ (rs.length : Int) - 1)]; rfl]
    refine ⟨_, rfl, ?_⟩
    exact iteF ⟨kG, gD⟩
  · obtain ⟨kG, gD⟩ := hG
    refine ⟨by show 0 ≤ sizeLine; decide, fun z2 nz2 => ?_⟩
    refine ⟨_, .list (([] : List Int).map PyData.int), .lst (sqL_of (lst_new nz2 gD)) (dp_ints _), .lst (sqL_of upd_same) .nil, shaped_Li _, shaped_Li [], _, rfl, ?_⟩
    rw [eqv_lints, decide_eq_true rfl]
    refine iteF ?_
    have kk := kG.trans (Ke.new (o := .lst []) nz2)
    have h2 := Ke.tup kk hu
    generalize upd G z2 (.lst []) = G2 at *
    refine ⟨_, rfl, u, _, rfl, .inr (sqT_of h2), fun l nl => ?_⟩
    have k3 := Ke.new (S := fun _ => False) (o := .lst (ns.map V.int)) nl
    have h3 := Ke.tup k3 h2
    have gl : (upd G2 l (.lst (ns.map V.int))) l = some (.lst (ns.map V.int)) := upd_same
    generalize upd G2 l _ = G3 at *
    refine ⟨_, rfl, u, ns, rfl, sqT_of h3, hlen, fun p c np hc => ?_⟩
    refine ⟨p, _, c, rfl, upd_same, by omega, fun ms p2 up hm hln np2 => ?_⟩
    have e : ms = ns := up_same up hup fun x => by rw [hm x, decide_eq_true_eq]
    subst e
    have k4 := (Ke.new (S := fun _ => False) (o := SetO _ p (fun j => decide (j ∈ ms)) c) np).trans (Ke.new (o := .lst (ms.map V.int)) np2)
    refine ⟨.list (ms.map PyData.int), .list (ms.map PyData.int), .lst (sqL_of (Ke.lst k4 gl)) (dp_ints ms), .lst (sqL_of upd_same) (dp_ints ms), shaped_Li ms, shaped_Li ms, ?_⟩
    rw [eqv_lints, decide_eq_true rfl]
    exact q _ (kk.trans (k3.trans k4))
theorem ok__law_is_state {P : Program} {w : World} {K : PySem.W.Frag} {mg : Str → Option Value} {base : Heap} {tb : List Addr} {f : Addr} {fd : FuncData} {f__law_is_tree : Addr} {fd__law_is_tree : FuncData} {f__law_are_ties : Addr} {fd__law_are_ties : FuncData} (T : Blt mg) (D__law_is_state : DefAt K mg "_law_is_state" s_law_is_state ["_law_web", "_law_cuts", "_law_thing"] f fd) (CT : Ktx K mg) (D__law_is_tree : DefAt K mg "_law_is_tree" s_law_is_tree ["_law_web", "_law_ties"] f__law_is_tree fd__law_is_tree) (G__law_is_tree : FnOk P w K mg base CX0 3 f__law_is_tree fd__law_is_tree ["_law_web", "_law_ties"] (sp__law_is_tree K tb)) (D__law_are_ties : DefAt K mg "_law_are_ties" s_law_are_ties ["_law_web", "_law_thing"] f__law_are_ties fd__law_are_ties) (G__law_are_ties : FnOk P w K mg base CX0 2 f__law_are_ties fd__law_are_ties ["_law_web", "_law_thing"] (sp__law_are_ties K tb)) :
    FnOk P w K mg base CX0 4 f fd ["_law_web", "_law_cuts", "_law_thing"] (sp__law_is_state K tb) := by
  refine D__law_is_state.ok sc__law_is_state (fun vs H Q E h => by
    obtain ⟨v, n, ts, ws, cu, th, ka, oa, pa, rfl, W, hok, hn0, hn1, hwl, hlen, hO, hcu, hth, hka, hoa, hpa, q⟩ := h
    all_goals rfl) fun A outer s H vs Q E hr h => ?_
  obtain ⟨v, n, ts, ws, cu, th, ka, oa, pa, rfl, W, hok, hn0, hn1, hwl, hlen, hO, hcu, hth, hka, hoa, hpa, q⟩ := h
  refine ⟨_, pss_cons (ps_if (PW.pt (pw_or (pt_not (pt_val (pe_callB (isiK (K := K)) (by rfl) T.b_isinstance (by decide +kernel) (pa_cons (pv 2) (pa_cons (pe_bltn (v := .ty "tuple") (u := .type "tuple") (by rfl) T.b_tuple (by decide +kernel) rfl) pa_nil))))) (pw_or1 (pt_cmpR op_ne (pe_callB (lenK (K := K)) (by rfl) T.b_len PySem.boot_len (pa_cons (pv 2) pa_nil)) (pe_int) (nomark _)))))
     (pss_one (ps_ret (pe_bl)))
     (pss_nil))
     (pss_cons (ps_if (pt_cmpR (neDK (K := K) hr.units) (pe_lc (own := [("_law_ties", 3)]) rfl sc__law_is_state.nd (pi_tup (pv 2)) (blkOk_by (own := [("_law_ties", 3)]) (N := nm__law_is_state) (sc := defScope s_law_is_state) (by decide +kernel)) (fun _ _ _ _ _ => pg_name (i := 3) sc__law_is_state.nd rfl (.inl rfl)) (fun _ _ _ _ _ => pts_one (pt_not (pt_val (pe_call G__law_are_ties (hr.mono (by decide)) (by rfl) D__law_are_ties.g D__law_are_ties.F.kp D__law_are_ties.b .nil pass0 (pa_cons (pv 0) (pa_cons (pv 3) pa_nil)))))) (fun _ _ _ _ _ => pv 3)) (pe_lst pa_nil) (nomark _))
     (pss_one (ps_ret (pe_bl)))
     (pss_nil))
     (pss_cons (ps_asg (pv 2) (tgtK (K := K) (n := 3) (pgs_cons (pg_name (i := 4) sc__law_is_state.nd rfl (.inl rfl)) (pgs_cons (pg_name (i := 5) sc__law_is_state.nd rfl (.inl rfl)) (pgs_cons (pg_name (i := 6) sc__law_is_state.nd rfl (.inl rfl)) pgs_nil)))))
     (pss_cons (ps_set (i := 7) sc__law_is_state.nd rfl (.inl rfl) (pe_op (catU (K := K)) (pe_op (catU (K := K)) (pe_op (catU (K := K)) (pv 4) (pv 5)) (pv 6)) (pv 1)))
     (pss_cons (ps_if (pt_cmpR op_ne (pe_lenSetT (by rfl) T.b_len (by rfl) T.b_set (pv 7)) (pe_callB (lenK (K := K)) (by rfl) T.b_len PySem.boot_len (pa_cons (pv 7) pa_nil)) (nomark _))
     (pss_one (ps_ret (pe_bl)))
     (pss_nil))
     (pss_one (ps_ret (pe_and (pe_call G__law_is_tree (hr.mono (by decide)) (by rfl) D__law_is_tree.g D__law_is_tree.F.kp D__law_is_tree.b .nil pass0 (pa_cons (pv 0) (pa_cons (pe_op (catU (K := K)) (pv 4) (pv 5)) pa_nil))) (pe_one (pe_call G__law_is_tree (hr.mono (by decide)) (by rfl) D__law_is_tree.g D__law_is_tree.F.kp D__law_is_tree.b .nil pass0 (pa_cons (pv 0) (pa_cons (pe_op (catU (K := K)) (pv 4) (pv 6)) pa_nil))))))))))), ?_⟩
  have LB := line_big
  have hl2 := nums_length 2 0 ws
  have hl0 := nums_length 0 0 ws
  have hl1 := nums_length 1 0 ws
  have hl3 := nums_length 3 0 ws
  have rng : ∀ g : Int, ∀ m ∈ numsFrom g 0 ws, 0 ≤ m ∧ m < (ts.length : Int) := fun g m hm => by
    have := nums_bd g 0 ws m hm
    omega
  refine ⟨_, rfl, _, _, _, _, true, rfl, .ty _, (TyN.tup hth).x, isi_yes, true, rfl, iteF ?_⟩
  refine ⟨_, rfl, th, _, rfl, .inr (sqT_of hth), rfl, _, rfl, ?_⟩
  have e3 : V.int (([V.ref ka, V.ref oa, V.ref pa].length : Nat) : Int) = V.int 3 := rfl
  rw [decide_eq_true e3]
  refine iteF ?_
  have hitems : ∀ x ∈ [V.ref ka, V.ref oa, V.ref pa], ∃ (a : Addr) (g : Int), x = .ref a ∧ H a = some (.tup ((numsFrom g 0 ws).map V.int)) := fun x hx => by
    simp only [List.mem_cons, List.not_mem_nil, or_false] at hx
    rcases hx with rfl | rfl | rfl
    · exact ⟨ka, 2, rfl, hka⟩
    · exact ⟨oa, 0, rfl, hoa⟩
    · exact ⟨pa, 1, rfl, hpa⟩
  refine ⟨_, rfl, th, rfl, ⟨_, sqT_of hth⟩, fun D hD => ?_⟩
  refine lc_tup (K := K) (a := th) (xs := [V.ref ka, V.ref oa, V.ref pa]) (fun j G => Ke H G ∧ G D = some (.lst (([] : List Int).map V.int))) ⟨Ke.new hD, upd_same⟩ (fun j G _ hG => ?_) (fun j x G hx' hG => ?_) (fun G hG => ?_)
  · exact sqT_of (hG.1.tup hth)
  · obtain ⟨kG, gD⟩ := hG
    obtain ⟨a, g, rfl, ha⟩ := hitems x (List.mem_of_getElem? hx')
    have hlg := nums_length g 0 ws
    refine ⟨rfl, _, rfl, _, rfl, v, n, ts, a, _, rfl, W.ke kG, kG.tup ha, rng g, nums_up g 0 ws, by omega, fun H' k' => ?_⟩
    refine ⟨_, rfl, ?_⟩
    exact iteF ⟨kG.trans k', k'.lst gD⟩
  obtain ⟨kG, gD⟩ := hG
  refine ⟨by show 0 ≤ sizeLine; decide, fun z2 nz2 => ?_⟩
  refine ⟨_, .list (([] : List Int).map PyData.int), .lst (sqL_of (lst_new nz2 gD)) (dp_ints _), .lst (sqL_of upd_same) .nil, shaped_Li _, shaped_Li [], _, rfl, ?_⟩
  rw [eqv_lints, decide_eq_true rfl]
  refine iteF ?_
  have kk := kG.trans (Ke.new (o := .lst []) nz2)
  have gth := Ke.tup kk hth
  have gka := Ke.tup kk hka
  have goa := Ke.tup kk hoa
  have gpa := Ke.tup kk hpa
  have gcu := Ke.tup kk hcu
  generalize upd G z2 (.lst []) = G2 at *
  refine ⟨_, rfl, th, _, rfl, sqT_of gth, rfl, _, _, rfl, _, _, rfl, _, [], rfl, rfl, ?_⟩
  refine ⟨_, rfl, _, rfl, ka, oa, _, _, rfl, rfl, gka, goa, by rw [List.length_map, List.length_map]; omega, fun c1 H1 k1 h1 => ?_⟩
  rw [← List.map_append] at h1
  refine ⟨_, rfl, c1, pa, _, _, rfl, rfl, h1, Ke.tup k1 gpa, by rw [List.length_map, List.length_map, List.length_append]; omega, fun c2 H2 k2 h2 => ?_⟩
  rw [← List.map_append] at h2
  refine ⟨_, rfl, c2, cu, _, _, rfl, rfl, h2, Ke.tup (k1.trans k2) gcu, by rw [List.length_map, List.length_map, List.length_append, List.length_append]; omega, fun c3 H3 k3 h3 => ?_⟩
  rw [← List.map_append] at h3
  have k123 := k1.trans (k2.trans k3)
  have kA := kk.trans k123
  refine ⟨_, rfl, c3, _, rfl, sqT_of h3, by rw [List.length_append, List.length_append, List.length_append]; omega, ?_⟩
  refine ⟨_, rfl, c3, _, rfl, .inr (sqT_of h3), rfl, _, rfl, ?_⟩
  rw [nub_of_nd (state_nd ws), List.length_map, decide_eq_true rfl]
  refine iteF ?_
  have lenA := (hO.tree 0 (by decide) (by decide)).2
  have lenB := (hO.tree 1 (by decide) (by decide)).2
  rw [List.length_append] at lenA lenB
  refine ⟨_, rfl, _, rfl, _, rfl, ka, oa, _, _, rfl, rfl, Ke.tup k123 gka, Ke.tup k123 goa, by rw [List.length_map, List.length_map]; omega, fun d1 H4 k4 h4 => ?_⟩
  rw [← List.map_append] at h4
  refine ⟨v, n, ts, d1, _, rfl, (W.ke kA).ke k4, hok, hn0, hn1, h4, fun m hm => (List.mem_append.mp hm).elim (rng 2 m) (rng 0 m), by rw [List.length_append]; omega, (hO.tree 0 (by decide) (by decide)).1, by rw [List.length_append]; exact lenA, fun H5 k5 => ?_⟩
  refine ⟨_, rfl, (if_pos rfl).mpr ?_⟩
  have k45 := k4.trans k5
  refine ⟨_, rfl, _, rfl, _, rfl, ka, pa, _, _, rfl, rfl, Ke.tup (k123.trans k45) gka, Ke.tup (k123.trans k45) gpa, by rw [List.length_map, List.length_map]; omega, fun d2 H6 k6 h6 => ?_⟩
  rw [← List.map_append] at h6
  refine ⟨v, n, ts, d2, _, rfl, W.ke (kA.trans (k45.trans k6)), hok, hn0, hn1, h6, fun m hm => (List.mem_append.mp hm).elim (rng 2 m) (rng 1 m), by rw [List.length_append]; omega, (hO.tree 1 (by decide) (by decide)).1, by rw [List.length_append]; exact lenB, fun H7 k7 => ?_⟩
  exact q _ (kA.trans (k45.trans (k6.trans k7)))
theorem ok__law_is_true {P : Program} {w : World} {K : PySem.W.Frag} {mg : Str → Option Value} {base : Heap} {tb : List Addr} {f : Addr} {fd : FuncData} (T : Blt mg) (D__law_is_true : DefAt K mg "_law_is_true" s_law_is_true ["_law_found", "_law_due"] f fd) (CT : Ktx K mg) :
    FnOk P w K mg base CX0 1 f fd ["_law_found", "_law_due"] (sp__law_is_true K tb) := by
  refine D__law_is_true.ok sc__law_is_true (fun vs H Q E h => by
    obtain ⟨a, b, rfl, q⟩ := h
    all_goals rfl) fun A outer s H vs Q E hr h => ?_
  obtain ⟨a, b, rfl, q⟩ := h
  refine ⟨_, pss_cons (ps_if (pt_val (pv 1))
     (pss_one (ps_ret (pe_cmpR op_isBl (pv 0) (pe_bl) (nomark _))))
     (pss_nil))
     (pss_one (ps_ret (pe_cmpR op_isBl (pv 0) (pe_bl) (nomark _)))), ?_⟩
  cases b with
  | true => exact ⟨_, rfl, true, rfl, iteT ⟨_, rfl, a, true, rfl, rfl, q⟩⟩
  | false => exact ⟨_, rfl, false, rfl, iteF ⟨_, rfl, a, false, rfl, rfl, q⟩⟩
theorem ok__law_order {P : Program} {w : World} {K : PySem.W.Frag} {mg : Str → Option Value} {base : Heap} {tb : List Addr} {f : Addr} {fd : FuncData} {f__law_next : Addr} {fd__law_next : FuncData} (T : Blt mg) (D__law_order : DefAt K mg "_law_order" s_law_order ["_law_deck_here", "_law_web", "_law_trees"] f fd) (CT : Ktx K mg) (D__law_next : DefAt K mg "_law_next" s_law_next ["_law_deck_here"] f__law_next fd__law_next) (G__law_next : FnOk P w K mg base CX0 1 f__law_next fd__law_next ["_law_deck_here"] (sp__law_next K tb)) :
    FnOk P w K mg base CX0 2 f fd ["_law_deck_here", "_law_web", "_law_trees"] (sp__law_order K tb) := by
  refine D__law_order.ok sc__law_order (fun vs H Q E h => by
    obtain ⟨p, v, n, ts, u, ws, rfl, hd, W, hn0, hlen, hu, hwl, hO, q⟩ := h
    all_goals rfl) fun A outer s H vs Q E hr h => ?_
  obtain ⟨p, v, n, ts, u, ws, rfl, hd, W, hn0, hlen, hu, hwl, hO, q⟩ := h
  refine ⟨_, pss_cons (ps_set (i := 3) sc__law_order.nd rfl (.inl rfl) (pe_listRg rfl (by rfl) T.b_list (prg_1 (by rfl) T.b_range (pe_callB (lenK (K := K)) (by rfl) T.b_len PySem.boot_len (pa_cons (pe_ix (ix_tupK (K := K)) (pv 1) (pe_int) (fun _ _ => rfl)) pa_nil)))))
     (pss_cons (ps_set (i := 4) sc__law_order.nd rfl (.inl rfl) (pe_lst pa_nil))
     (pss_cons (ps_for PassesOwn.never rfl (pi_range1 (by rfl) T.b_range (pa_cons (pe_callB (lenK (K := K)) (by rfl) T.b_len PySem.boot_len (pa_cons (pe_ix (ix_tupK (K := K)) (pv 1) (pe_int) (fun _ _ => rfl)) pa_nil)) pa_nil)) (pg_name (i := 5) sc__law_order.nd rfl (.inl rfl))
     (pss_one (ps_expr (pe_bm PySem.F.plainAttrs_list PySem.F.slot_list_append PySem.F.type_list_append mt_append (pv 4) (pa_cons (pe_bm PySem.F.plainAttrs_list PySem.F.slot_list_pop PySem.F.type_list_pop mt_popAt (pv 3) (pa_cons (pe_op op_mod (pe_call G__law_next (hr.mono (by decide)) (by rfl) D__law_next.g D__law_next.F.kp D__law_next.b .nil pass0 (pa_cons (pv 0) pa_nil)) (pe_callB (lenK (K := K)) (by rfl) T.b_len PySem.boot_len (pa_cons (pv 3) pa_nil))) pa_nil)) pa_nil)))))
     (pss_cons (ps_set (i := 6) sc__law_order.nd rfl (.inl rfl) (pe_op op_mod (pe_call G__law_next (hr.mono (by decide)) (by rfl) D__law_next.g D__law_next.F.kp D__law_next.b .nil pass0 (pa_cons (pv 0) pa_nil)) (pe_int)))
     (pss_cons (ps_set (i := 7) sc__law_order.nd rfl (.inr rfl) (pe_op op_mod (pe_call G__law_next (hr.mono (by decide)) (by rfl) D__law_next.g D__law_next.F.kp D__law_next.b .nil pass0 (pa_cons (pv 0) pa_nil)) (pe_ix (ix_tupK (K := K)) (pv 1) (pe_int) (fun _ _ => rfl))))
     (pss_cons (ps_if (pt_cmpR op_eq (pv 6) (pe_int) (nomark _))
     (pss_one (ps_ret (pe_op op_cat (pe_lc (own := [("_law_tie_here", 8)]) rfl sc__law_order.nd (pi_list (pv 4)) (blkOk_by (own := [("_law_tie_here", 8)]) (N := nm__law_order) (sc := defScope s_law_order) (by decide +kernel)) (fun _ _ _ _ _ => pg_name (i := 8) sc__law_order.nd rfl (.inl rfl)) (fun _ _ _ _ _ => pts_one (pt_cmpR (in_seqK (K := K)) (pv 7) (pe_ix (ix_tupK (K := K)) (pe_ix (ix_tupK (K := K)) (pv 1) (pe_int) (fun _ _ => rfl)) (pv 8) (fun _ _ => rfl)) (by rfl))) (fun _ _ _ _ _ => pv 8)) (pe_lc (own := [("_law_tie_here", 8)]) rfl sc__law_order.nd (pi_list (pv 4)) (blkOk_by (own := [("_law_tie_here", 8)]) (N := nm__law_order) (sc := defScope s_law_order) (by decide +kernel)) (fun _ _ _ _ _ => pg_name (i := 8) sc__law_order.nd rfl (.inl rfl)) (fun _ _ _ _ _ => pts_one (pt_cmpR (notIn_seqK (K := K)) (pv 7) (pe_ix (ix_tupK (K := K)) (pe_ix (ix_tupK (K := K)) (pv 1) (pe_int) (fun _ _ => rfl)) (pv 8) (fun _ _ => rfl)) (by rfl))) (fun _ _ _ _ _ => pv 8)))))
     (pss_nil))
     (pss_cons (ps_if (pt_cmpR op_eq (pv 6) (pe_int) (nomark _))
     (pss_one (ps_ret (pe_op op_cat (pe_lc (own := [("_law_tie_here", 8)]) rfl sc__law_order.nd (pi_list (pv 4)) (blkOk_by (own := [("_law_tie_here", 8)]) (N := nm__law_order) (sc := defScope s_law_order) (by decide +kernel)) (fun _ _ _ _ _ => pg_name (i := 8) sc__law_order.nd rfl (.inl rfl)) (fun _ _ _ _ _ => pts_one (pt_cmpR op_eq (pe_ix (ix_tupK (K := K)) (pv 2) (pv 8) (fun _ _ => rfl)) (pe_int) (nomark _))) (fun _ _ _ _ _ => pv 8)) (pe_lc (own := [("_law_tie_here", 8)]) rfl sc__law_order.nd (pi_list (pv 4)) (blkOk_by (own := [("_law_tie_here", 8)]) (N := nm__law_order) (sc := defScope s_law_order) (by decide +kernel)) (fun _ _ _ _ _ => pg_name (i := 8) sc__law_order.nd rfl (.inl rfl)) (fun _ _ _ _ _ => pts_one (pt_cmpR op_ne (pe_ix (ix_tupK (K := K)) (pv 2) (pv 8) (fun _ _ => rfl)) (pe_int) (nomark _))) (fun _ _ _ _ _ => pv 8)))))
     (pss_nil))
     (pss_one (ps_ret (pv 4))))))))), ?_⟩
  have LB := line_big
  obtain ⟨tw, wu, rs, rfl, htw, hwu, hT⟩ := id W
  have hrl := hT.length
  refine ⟨_, rfl, tw, _, 1, _, rfl, rfl, sqT_of htw, atI_nat (j := 1) rfl, wu, _, rfl, .inr (sqT_of hwu), ?_⟩
  rw [hrl]
  refine ⟨(ts.length : Int), rfl, ⟨by omega, by omega, by omega, by omega, by omega⟩, fun a na => ?_⟩
  have k1 : Dk p H (upd H a (.lst (rgV 0 (ts.length : Int)))) := (Dk.refl hd).new na
  have ga : (upd H a (.lst (rgV 0 (ts.length : Int)))) a = some (.lst ((upTo (ts.length : Int)).map V.int)) := by rw [← rgV_up]; exact upd_same
  have nap : a ≠ p := (hd.ne na).symm
  have htw1 := tup_new (o := .lst (rgV 0 (ts.length : Int))) na htw
  have hwu1 := tup_new (o := .lst (rgV 0 (ts.length : Int))) na hwu
  generalize upd H a _ = H1 at *
  refine ⟨by show 0 ≤ sizeLine; decide, fun l nl => ?_⟩
  have k2 : Dk p H (upd H1 l (.lst [])) := k1.new nl
  have ga2 := lst_new (o := .lst []) nl ga
  have gl : (upd H1 l (.lst [])) l = some (.lst (([] : List Int).map V.int)) := upd_same
  have nlp : l ≠ p := (k1.d.ne nl).symm
  have nla : l ≠ a := fun e => by rw [e, ga] at nl; cases nl
  have nlH : H l = none := k1.k.dom _ nl
  have htw2 := tup_new (o := .lst []) nl htw1
  have hwu2 := tup_new (o := .lst []) nl hwu1
  generalize upd H1 l _ = H2 at *
  have hul : (upTo (ts.length : Int)).length = ts.length := by rw [upTo_length]; omega
  refine ⟨_, rfl, tw, _, 1, _, rfl, rfl, sqT_of htw2, atI_nat (j := 1) rfl, wu, _, rfl, .inr (sqT_of hwu2), ?_⟩
  refine ⟨_, rfl, by omega, by omega, ?_⟩
  refine for_range (lo := 0) (n := rs.length) (fun i σ G => ∃ (y5 : Option V) (left found : List Int), σ = [some (.ref p), some (.ref tw), some (.ref u), some (.ref a), some (.ref l), y5, none, none, none] ∧ Dk p H G ∧ G a = some (.lst (left.map V.int)) ∧ G l = some (.lst (found.map V.int)) ∧ (found ++ left).Perm (upTo (ts.length : Int)) ∧ found.length = i) ⟨none, upTo (ts.length : Int), [], rfl, k2, ga2, gl, .refl _, rfl⟩ (fun i σ G hi hG => ?_) (fun σ G hG => ?_)
  · obtain ⟨y5, left, found, rfl, kG, gA, gL, hpm, hfl⟩ := hG
    have hll := hpm.length_eq
    rw [List.length_append, hul] at hll
    have hpos : 0 < left.length := by omega
    refine ⟨_, rfl, .inl ⟨rfl, _, sqL_of gL⟩, ?_⟩
    refine ⟨_, rfl, .inl ⟨rfl, _, sqL_of gA⟩, _, rfl, p, rfl, kG.d, fun r G1 r0 r1 k3 => ?_⟩
    have ga1 := k3.lst gA nap
    have gl1 := k3.lst gL nlp
    have er := emod_bds r (n := ((left.map V.int).length : Int)) (by rw [List.length_map]; omega)
    have er2 : (r % ((left.map V.int).length : Int)).toNat < left.length := by rw [List.length_map] at er ⊢; omega
    refine ⟨_, rfl, a, _, rfl, .inl (sqL_of ga1), _, _, rfl, rfl, by show (0 : Int) < ((left.map V.int).length : Int); rw [List.length_map]; omega, a, _, _, _, _, rfl, rfl, ga1, by omega, by rw [List.length_map] at er ⊢; omega, seqIx er.1 er.2, get_int er2, ?_⟩
    rw [erase_map]
    have hpe : (found ++ [left[(r % ((left.map V.int).length : Int)).toNat]] ++ left.eraseIdx (r % ((left.map V.int).length : Int)).toNat).Perm (upTo (ts.length : Int)) := by
      refine List.Perm.trans ?_ hpm
      rw [List.append_assoc]
      exact List.Perm.append_left _ (erase_permP (List.getElem?_eq_getElem er2))
    generalize left[(r % ((left.map V.int).length : Int)).toNat] = num at *
    generalize left.eraseIdx (r % ((left.map V.int).length : Int)).toNat = le at *
    have gl2 : (upd G1 a (.lst (le.map V.int))) l = some (.lst (found.map V.int)) := by rw [upd_ne nla]; exact gl1
    refine ⟨l, _, _, rfl, rfl, gl2, by rw [List.length_map]; omega, _, le, found ++ [num], rfl, ((kG.trans k3).over hd na).over hd nlH, ?_, ?_, hpe, by rw [List.length_append, hfl]; rfl⟩
    · rw [upd_ne (Ne.symm nla)]
      exact upd_same
    · rw [List.map_append]
      exact upd_same
  obtain ⟨y5, left, found, rfl, kG, gA, gL, hpm, hfl⟩ := hG
  have hll := hpm.length_eq
  rw [List.length_append, hul] at hll
  have hle : left = [] := List.length_eq_zero_iff.mp (by omega)
  subst hle
  rw [List.append_nil] at hpm
  clear gA
  refine ⟨_, rfl, p, rfl, kG.d, fun r6 H6 r60 r61 k6 => ?_⟩
  have e6 := emod_bds r6 (n := 4) (by decide)
  refine ⟨_, _, rfl, rfl, by show (0 : Int) < 4; decide, ?_⟩
  have K6 := kG.trans k6
  have gL6 := k6.lst gL nlp
  have W6 := W.dk K6 hd
  refine ⟨_, rfl, p, rfl, K6.d, fun r7 H7 r70 r71 k7 => ?_⟩
  have K7 := K6.trans k7
  have gL7 := k7.lst gL6 nlp
  have htw7 := K7.tup hd htw
  have hwu7 := K7.tup hd hwu
  have hu7 := K7.tup hd hu
  refine ⟨_, rfl, tw, _, 0, _, rfl, rfl, sqT_of htw7, atI_nat (j := 0) rfl, _, _, rfl, rfl, by show (0 : Int) < n; omega, ?_⟩
  refine ⟨_, rfl, rfl, _, rfl, ?_⟩
  rw [decide_int]
  have hfm : ∀ m ∈ found, 0 ≤ m ∧ m < (ts.length : Int) := fun m hm => upTo_mem.mp (hpm.mem_iff.mp hm)
  have hfn : found.length = ts.length := by omega
  refine iteB (fun hb => ?_) (fun hb => ?_)
  · let P : Int → Bool := fun m => inV (.int (r7 % n)) [.int (tk ts m).1, .int (tk ts m).2]
    have gl1 := gL7
    refine ⟨_, rfl, l, rfl, ⟨_, sqL_of gl1⟩, fun D1 nD1 => ?_⟩
    refine lc_it (walk_list (K := K) (a := l) (xs := found.map V.int)) (fun i G => Ke H7 G ∧ G D1 = some (.lst (((found.take i).filter P).map V.int))) ⟨Ke.new nD1, upd_same⟩ (fun i G _ hG => sqL_of (hG.1.lst gl1)) (fun i x G G' hi hG hy => ?_) (fun G hG => ?_)
    · obtain ⟨kG, gD⟩ := hG
      obtain ⟨rfl, hx⟩ := hy
      obtain ⟨m, hm0, rfl⟩ := int_at hx
      obtain ⟨m0, m1⟩ := hfm m (List.mem_of_getElem? hm0)
      have kk := kG
      have hfl' := List.length_filter_le P (found.take i)
      rw [List.length_take] at hfl'
      obtain ⟨e, he, hq⟩ := hT.at_ m0 m1
      refine ⟨rfl, _, rfl, _, rfl, tw, _, 1, _, rfl, rfl, sqT_of (Ke.tup kk htw7), atI_nat (j := 1) rfl, _, rfl, wu, _, m, _, rfl, rfl, sqT_of (Ke.tup kk hwu7), he, e, _, rfl, .inr (sqT_of (Ke.tup kk (K7.tup hd hq))), rfl, rfl, _, rfl, ?_⟩
      show if (P m) = true then _ else _
      refine iteB (fun hb => ?_) (fun hb => ?_)
      · refine ⟨_, rfl, _, gD, by rw [List.length_map]; omega, kG.over nD1, ?_⟩
        rw [take_next hm0, List.filter_append, List.filter_cons_of_pos (by exact hb), List.map_append]
        exact upd_same
      · refine ⟨kG, ?_⟩
        rw [take_next hm0, List.filter_append, List.filter_cons_of_neg (by intro z; rw [show (P m) = true from z] at hb; cases hb), List.filter_nil, List.append_nil]
        exact gD
    obtain ⟨kD1, gD1⟩ := hG
    rw [List.length_map, List.take_length] at gD1
    have B2e : ∃ B2, B2 = G := ⟨_, rfl⟩
    obtain ⟨B2, eB2⟩ := B2e
    rw [← eB2] at kD1 gD1
    rw [← eB2]
    have gl2 := kD1.lst gL7
    refine ⟨_, rfl, l, rfl, ⟨_, sqL_of gl2⟩, fun D2 nD2 => ?_⟩
    refine lc_it (walk_list (K := K) (a := l) (xs := found.map V.int)) (fun i G => Ke B2 G ∧ G D2 = some (.lst (((found.take i).filter (fun m => !P m)).map V.int))) ⟨Ke.new nD2, upd_same⟩ (fun i G _ hG => sqL_of (hG.1.lst gl2)) (fun i x G G' hi hG hy => ?_) (fun G hG => ?_)
    · obtain ⟨kG, gD⟩ := hG
      obtain ⟨rfl, hx⟩ := hy
      obtain ⟨m, hm0, rfl⟩ := int_at hx
      obtain ⟨m0, m1⟩ := hfm m (List.mem_of_getElem? hm0)
      have kk := kD1.trans kG
      have hfl' := List.length_filter_le (fun m => !P m) (found.take i)
      rw [List.length_take] at hfl'
      obtain ⟨e, he, hq⟩ := hT.at_ m0 m1
      refine ⟨rfl, _, rfl, _, rfl, tw, _, 1, _, rfl, rfl, sqT_of (Ke.tup kk htw7), atI_nat (j := 1) rfl, _, rfl, wu, _, m, _, rfl, rfl, sqT_of (Ke.tup kk hwu7), he, e, _, rfl, .inr (sqT_of (Ke.tup kk (K7.tup hd hq))), rfl, rfl, _, rfl, ?_⟩
      show if (!P m) = true then _ else _
      refine iteB (fun hb => ?_) (fun hb => ?_)
      · refine ⟨_, rfl, _, gD, by rw [List.length_map]; omega, kG.over nD2, ?_⟩
        rw [take_next hm0, List.filter_append, List.filter_cons_of_pos (by exact hb), List.map_append]
        exact upd_same
      · refine ⟨kG, ?_⟩
        rw [take_next hm0, List.filter_append, List.filter_cons_of_neg (by intro z; rw [show (!P m) = true from z] at hb; cases hb), List.filter_nil, List.append_nil]
        exact gD
    obtain ⟨kD2, gD2⟩ := hG
    rw [List.length_map, List.take_length] at gD2
    have hf1 := List.length_filter_le P found
    have hf2 := List.length_filter_le (fun m => !P m) found
    refine ⟨D1, D2, _, _, rfl, rfl, Ke.lst kD2 gD1, gD2, by rw [List.length_map, List.length_map]; omega, fun z nz => ?_⟩
    rw [← List.map_append]
    have kz := (kD1.trans kD2).trans (Ke.new (o := .lst ((found.filter P ++ found.filter (fun m => !P m)).map V.int)) nz)
    exact q _ z _ (K7.ke kz) (K7.k.dom _ ((kD1.trans kD2).dom _ nz)) upd_same ((List.filter_append_perm P found).trans hpm)
  refine ⟨_, rfl, rfl, _, rfl, ?_⟩
  rw [decide_int]
  refine iteB (fun hb2 => ?_) (fun hb2 => ?_)
  · let P : Int → Bool := fun m => decide (ws.getD m.toNat .non = V.int 0)
    have gl1 := gL7
    refine ⟨_, rfl, l, rfl, ⟨_, sqL_of gl1⟩, fun D1 nD1 => ?_⟩
    refine lc_it (walk_list (K := K) (a := l) (xs := found.map V.int)) (fun i G => Ke H7 G ∧ G D1 = some (.lst (((found.take i).filter P).map V.int))) ⟨Ke.new nD1, upd_same⟩ (fun i G _ hG => sqL_of (hG.1.lst gl1)) (fun i x G G' hi hG hy => ?_) (fun G hG => ?_)
    · obtain ⟨kG, gD⟩ := hG
      obtain ⟨rfl, hx⟩ := hy
      obtain ⟨m, hm0, rfl⟩ := int_at hx
      obtain ⟨m0, m1⟩ := hfm m (List.mem_of_getElem? hm0)
      have kk := kG
      have hfl' := List.length_filter_le P (found.take i)
      rw [List.length_take] at hfl'
      have hz : atI ws m = some (ws.getD m.toNat .non) := by
        have e := atI_nat (xs := ws) (j := m.toNat) (List.getElem?_eq_getElem (by omega : m.toNat < ws.length))
        rw [Int.toNat_of_nonneg m0] at e
        rw [e, List.getD_eq_getElem?_getD, List.getElem?_eq_getElem (by omega : m.toNat < ws.length)]
        rfl
      have hoz : IsO (ws.getD m.toNat .non) := by
        rw [List.getD_eq_getElem?_getD, List.getElem?_eq_getElem (by omega : m.toNat < ws.length)]
        exact hO _ (List.getElem_mem _)
      refine ⟨rfl, _, rfl, _, rfl, u, _, m, _, rfl, rfl, sqT_of (Ke.tup kk hu7), hz, hoz.scal 0, _, rfl, ?_⟩
      show if (P m) = true then _ else _
      refine iteB (fun hb => ?_) (fun hb => ?_)
      · refine ⟨_, rfl, _, gD, by rw [List.length_map]; omega, kG.over nD1, ?_⟩
        rw [take_next hm0, List.filter_append, List.filter_cons_of_pos (by exact hb), List.map_append]
        exact upd_same
      · refine ⟨kG, ?_⟩
        rw [take_next hm0, List.filter_append, List.filter_cons_of_neg (by intro z; rw [show (P m) = true from z] at hb; cases hb), List.filter_nil, List.append_nil]
        exact gD
    obtain ⟨kD1, gD1⟩ := hG
    rw [List.length_map, List.take_length] at gD1
    have B2e : ∃ B2, B2 = G := ⟨_, rfl⟩
    obtain ⟨B2, eB2⟩ := B2e
    rw [← eB2] at kD1 gD1
    rw [← eB2]
    have gl2 := kD1.lst gL7
    refine ⟨_, rfl, l, rfl, ⟨_, sqL_of gl2⟩, fun D2 nD2 => ?_⟩
    refine lc_it (walk_list (K := K) (a := l) (xs := found.map V.int)) (fun i G => Ke B2 G ∧ G D2 = some (.lst (((found.take i).filter (fun m => !P m)).map V.int))) ⟨Ke.new nD2, upd_same⟩ (fun i G _ hG => sqL_of (hG.1.lst gl2)) (fun i x G G' hi hG hy => ?_) (fun G hG => ?_)
    · obtain ⟨kG, gD⟩ := hG
      obtain ⟨rfl, hx⟩ := hy
      obtain ⟨m, hm0, rfl⟩ := int_at hx
      obtain ⟨m0, m1⟩ := hfm m (List.mem_of_getElem? hm0)
      have kk := kD1.trans kG
      have hfl' := List.length_filter_le (fun m => !P m) (found.take i)
      rw [List.length_take] at hfl'
      have hz : atI ws m = some (ws.getD m.toNat .non) := by
        have e := atI_nat (xs := ws) (j := m.toNat) (List.getElem?_eq_getElem (by omega : m.toNat < ws.length))
        rw [Int.toNat_of_nonneg m0] at e
        rw [e, List.getD_eq_getElem?_getD, List.getElem?_eq_getElem (by omega : m.toNat < ws.length)]
        rfl
      have hoz : IsO (ws.getD m.toNat .non) := by
        rw [List.getD_eq_getElem?_getD, List.getElem?_eq_getElem (by omega : m.toNat < ws.length)]
        exact hO _ (List.getElem_mem _)
      refine ⟨rfl, _, rfl, _, rfl, u, _, m, _, rfl, rfl, sqT_of (Ke.tup kk hu7), hz, hoz.scal 0, _, rfl, ?_⟩
      show if (!P m) = true then _ else _
      refine iteB (fun hb => ?_) (fun hb => ?_)
      · refine ⟨_, rfl, _, gD, by rw [List.length_map]; omega, kG.over nD2, ?_⟩
        rw [take_next hm0, List.filter_append, List.filter_cons_of_pos (by exact hb), List.map_append]
        exact upd_same
      · refine ⟨kG, ?_⟩
        rw [take_next hm0, List.filter_append, List.filter_cons_of_neg (by intro z; rw [show (!P m) = true from z] at hb; cases hb), List.filter_nil, List.append_nil]
        exact gD
    obtain ⟨kD2, gD2⟩ := hG
    rw [List.length_map, List.take_length] at gD2
    have hf1 := List.length_filter_le P found
    have hf2 := List.length_filter_le (fun m => !P m) found
    refine ⟨D1, D2, _, _, rfl, rfl, Ke.lst kD2 gD1, gD2, by rw [List.length_map, List.length_map]; omega, fun z nz => ?_⟩
    rw [← List.map_append]
    have kz := (kD1.trans kD2).trans (Ke.new (o := .lst ((found.filter P ++ found.filter (fun m => !P m)).map V.int)) nz)
    exact q _ z _ (K7.ke kz) (K7.k.dom _ ((kD1.trans kD2).dom _ nz)) upd_same ((List.filter_append_perm P found).trans hpm)
  · exact ⟨_, rfl, q _ l found K7 nlH gL7 hpm⟩
theorem ok_Match_numbers_at {P : Program} {w : World} {K : PySem.W.Frag} {mg : Str → Option Value} {base : Heap} {tb : List Addr} {f : Addr} {fd : FuncData} (T : Blt mg) (D_Match_numbers_at : DefAtM K (He.ga K "Match") "numbers_at" "Match.numbers_at" s_Match_numbers_at ["self", "place"] f fd) (CT : Ktx K mg) {c Pt : Addr} (TB : LamX.TabB base mg c Pt) (hcd : fd.code = .ref c) (hPt : Pt ∈ tb) :
    FnOk P w K mg base CX0 7 f fd ["self", "place"] (sp_Match_numbers_at K tb) := by
  refine D_Match_numbers_at.ok sc_Match_numbers_at (fun vs H Q E h => by
    obtain ⟨x, lp, n, ts, ws, g, rfl, hM, hT0, q⟩ := h
    all_goals rfl) fun A outer s H vs Q E hr h => ?_
  obtain ⟨x, lp, n, ts, ws, g, rfl, hM, hT0, q⟩ := h
  refine ⟨_, pss_one (ps_ret (pe_tuple (k := 0) (vs := [1, 2]) (hr.mono (by decide)) (by rfl) T.b_tuple TB hcd (gxs_of (XN := nm_Match_numbers_at) (xsc := defScope s_Match_numbers_at) (N := ["place", "number", "here"]) (src := [some 1, none, none]) (by decide +kernel)) (pi_enum (by rfl) T.b_enumerate (pa_cons (pe_fld (pv 0) rfl) pa_nil)) ⟨fun _ _ _ _ _ _ => tgtK (K := K) (n := 2) (pgs_cons (pg_name (i := 1) gnd_Match_numbers_at_0 rfl (.inl rfl)) (pgs_cons (pg_name (i := 2) gnd_Match_numbers_at_0 rfl (.inl rfl)) pgs_nil)), fun _ _ _ _ _ _ hz => pts_one (pt_cmpR op_eq (pv 2) (pv 0) (nomark _)), fun _ _ _ _ _ _ hz => pv 1⟩)), ?_⟩
  have LB := line_big
  obtain ⟨dx, nv, h1, h2⟩ := hM.at_
  have hwl := hM.wl
  have hln := hM.len
  refine ⟨_, rfl, x, _, dx, _, _, rfl, h1, CT.c_Match, CT.n_Match_places, mtc_places, lp, ws, rfl, sqL_of hM.pl, hT0 _ hPt, fun H2 htb => ?_⟩
  have k2 := Ke.tabd (hT0 _ hPt) htb
  refine gx_it (a0 := []) (walk_enum (K := K) (a := lp) (xs := ws)) (fun i xs G => Ke H G ∧ xs = (numsFrom g 0 (ws.take i)).map V.int) ⟨k2, rfl⟩ (fun _ _ G _ hG => sqL_of (hG.1.lst hM.pl)) (fun i x xs G G' hi hG hy => ?_) (fun xs G hG => ?_)
  · obtain ⟨kG, rfl⟩ := hG
    obtain ⟨T1, y1, y2, rfl, nT, rfl, e1, e2⟩ := hy
    cases e1
    have hO2 := hM.isO y2 (List.mem_of_getElem? e2)
    have en : numsFrom g 0 (ws.take (i + 1)) = numsFrom g 0 (ws.take i) ++ if y2 = V.int g then [(i : Int)] else [] := by
      rw [take_next e2, nums_snoc, List.length_take, Nat.zero_add, Nat.min_eq_left (by omega)]
    have hnl := nums_length g 0 (ws.take i)
    rw [List.length_take] at hnl
    refine ⟨T1, _, rfl, sqT_of upd_same, rfl, _, _, rfl, _, [], rfl, rfl, rfl, ?_⟩
    refine ⟨_, rfl, _, rfl, hO2.scal g, _, rfl, iteB (fun hb => ?_) (fun hb => ?_)⟩
    · have hb : y2 = V.int g := of_decide_eq_true hb
      refine ⟨_, rfl, by rw [List.length_map]; omega, kG.trans (Ke.new nT), ?_⟩
      rw [en, if_pos hb, List.map_append]
      rfl
    · have hb : ¬ y2 = V.int g := of_decide_eq_false hb
      exact ⟨kG.trans (Ke.new nT), by rw [en, if_neg hb, List.append_nil]⟩
  · obtain ⟨kG, rfl⟩ := hG
    rw [List.take_length]
    have hnl := nums_length g 0 ws
    exact ⟨by rw [List.length_map]; omega, fun p np => q _ p (kG.trans (Ke.new np)) (kG.dom _ np) upd_same⟩
theorem ok_Match_state {P : Program} {w : World} {K : PySem.W.Frag} {mg : Str → Option Value} {base : Heap} {tb : List Addr} {f : Addr} {fd : FuncData} {f_Match_numbers_at : Addr} {fd_Match_numbers_at : FuncData} (T : Blt mg) (D_Match_state : DefAtM K (He.ga K "Match") "state" "Match.state" s_Match_state ["self"] f fd) (CT : Ktx K mg) (D_Match_numbers_at : DefAtM K (He.ga K "Match") "numbers_at" "Match.numbers_at" s_Match_numbers_at ["self", "place"] f_Match_numbers_at fd_Match_numbers_at) (G_Match_numbers_at : FnOk P w K mg base CX0 7 f_Match_numbers_at fd_Match_numbers_at ["self", "place"] (sp_Match_numbers_at K tb)) :
    FnOk P w K mg base CX0 8 f fd ["self"] (sp_Match_state K tb) := by
  refine D_Match_state.ok sc_Match_state (fun vs H Q E h => by
    obtain ⟨x, lp, n, ts, ws, rfl, hM, hT0, q⟩ := h
    all_goals rfl) fun A outer s H vs Q E hr h => ?_
  obtain ⟨x, lp, n, ts, ws, rfl, hM, hT0, q⟩ := h
  refine ⟨_, pss_one (ps_ret (pe_tup (pa_cons (pe_meth (pv 0) CT.c_Match D_Match_numbers_at.me G_Match_numbers_at (hr.mono (by decide)) D_Match_numbers_at.b .nil pass0 (pa_cons (pe_glob (v := .int 2) (by rfl) T.c_KEPT.choose_spec ⟨_, rfl⟩) pa_nil)) (pa_cons (pe_meth (pv 0) CT.c_Match D_Match_numbers_at.me G_Match_numbers_at (hr.mono (by decide)) D_Match_numbers_at.b .nil pass0 (pa_cons (pe_glob (v := .int 0) (by rfl) T.c_ONE.choose_spec ⟨_, rfl⟩) pa_nil)) (pa_cons (pe_meth (pv 0) CT.c_Match D_Match_numbers_at.me G_Match_numbers_at (hr.mono (by decide)) D_Match_numbers_at.b .nil pass0 (pa_cons (pe_glob (v := .int 1) (by rfl) T.c_OTHER.choose_spec ⟨_, rfl⟩) pa_nil)) pa_nil))))), ?_⟩
  have LB := line_big
  obtain ⟨dx, nv, h1, h2⟩ := hM.at_
  refine ⟨_, rfl, x, dx, _, rfl, h1, mtc_na, x, lp, n, ts, ws, 2, rfl, hM, hT0, fun H1 a k1 na ha => ?_⟩
  have M1 := hM.ke k1
  obtain ⟨dx1, nv1, g1, g2⟩ := M1.at_
  refine ⟨_, rfl, x, dx1, _, rfl, g1, mtc_na, x, lp, n, ts, ws, 0, rfl, M1, hT0.kx k1, fun H2 b k2 nb hb => ?_⟩
  have M2 := M1.ke k2
  obtain ⟨dx2, nv2, f1, f2⟩ := M2.at_
  refine ⟨_, rfl, x, dx2, _, rfl, f1, mtc_na, x, lp, n, ts, ws, 1, rfl, M2, (hT0.kx k1).kx k2, fun H3 c k3 nc hc => ?_⟩
  refine ⟨by show 3 ≤ sizeLine; decide, fun p np => ?_⟩
  have k4 := Ke.new (S := fun _ => False) (o := .tup [.ref a, .ref b, .ref c]) np
  have kA := (k1.trans k2).trans k3
  exact q _ p a b c (kA.trans k4) (kA.dom _ np) upd_same (Ke.tup (k2.trans (k3.trans k4)) ha) (Ke.tup (k3.trans k4) hb) (Ke.tup k4 hc)
theorem ok_Match_cuts {P : Program} {w : World} {K : PySem.W.Frag} {mg : Str → Option Value} {base : Heap} {tb : List Addr} {f : Addr} {fd : FuncData} {f_Match_numbers_at : Addr} {fd_Match_numbers_at : FuncData} (T : Blt mg) (D_Match_cuts : DefAtM K (He.ga K "Match") "cuts" "Match.cuts" s_Match_cuts ["self"] f fd) (CT : Ktx K mg) (D_Match_numbers_at : DefAtM K (He.ga K "Match") "numbers_at" "Match.numbers_at" s_Match_numbers_at ["self", "place"] f_Match_numbers_at fd_Match_numbers_at) (G_Match_numbers_at : FnOk P w K mg base CX0 7 f_Match_numbers_at fd_Match_numbers_at ["self", "place"] (sp_Match_numbers_at K tb)) :
    FnOk P w K mg base CX0 8 f fd ["self"] (sp_Match_cuts K tb) := by
  refine D_Match_cuts.ok sc_Match_cuts (fun vs H Q E h => by
    obtain ⟨x, lp, n, ts, ws, rfl, hM, hT0, q⟩ := h
    all_goals rfl) fun A outer s H vs Q E hr h => ?_
  obtain ⟨x, lp, n, ts, ws, rfl, hM, hT0, q⟩ := h
  refine ⟨_, pss_one (ps_ret (pe_meth (pv 0) CT.c_Match D_Match_numbers_at.me G_Match_numbers_at (hr.mono (by decide)) D_Match_numbers_at.b .nil pass0 (pa_cons (pe_glob (v := .int 3) (by rfl) T.c_CUT.choose_spec ⟨_, rfl⟩) pa_nil))), ?_⟩
  have LB := line_big
  obtain ⟨dx, nv, h1, h2⟩ := hM.at_
  exact ⟨_, rfl, x, dx, _, rfl, h1, mtc_na, x, lp, n, ts, ws, 3, rfl, hM, hT0, fun H' p k np hp => q H' p k np hp⟩
theorem ok_Match_joined {P : Program} {w : World} {K : PySem.W.Frag} {mg : Str → Option Value} {base : Heap} {tb : List Addr} {f : Addr} {fd : FuncData} {f_is_tree : Addr} {fd_is_tree : FuncData} {f_Match_numbers_at : Addr} {fd_Match_numbers_at : FuncData} (T : Blt mg) (D_Match_joined : DefAtM K (He.ga K "Match") "joined" "Match.joined" s_Match_joined ["self"] f fd) (CT : Ktx K mg) (D_is_tree : DefAt K mg "is_tree" s_is_tree ["web", "numbers"] f_is_tree fd_is_tree) (G_is_tree : FnOk P w K mg base CX0 4 f_is_tree fd_is_tree ["web", "numbers"] (sp_is_tree K tb)) (D_Match_numbers_at : DefAtM K (He.ga K "Match") "numbers_at" "Match.numbers_at" s_Match_numbers_at ["self", "place"] f_Match_numbers_at fd_Match_numbers_at) (G_Match_numbers_at : FnOk P w K mg base CX0 7 f_Match_numbers_at fd_Match_numbers_at ["self", "place"] (sp_Match_numbers_at K tb)) :
    FnOk P w K mg base CX0 8 f fd ["self"] (sp_Match_joined K tb) := by
  refine D_Match_joined.ok sc_Match_joined (fun vs H Q E h => by
    obtain ⟨x, lp, n, ts, ws, rfl, hM, hT0, q⟩ := h
    all_goals rfl) fun A outer s H vs Q E hr h => ?_
  obtain ⟨x, lp, n, ts, ws, rfl, hM, hT0, q⟩ := h
  refine ⟨_, pss_one (ps_ret (pe_call G_is_tree (hr.mono (by decide)) (by rfl) D_is_tree.g D_is_tree.F.kp D_is_tree.b .nil pass0 (pa_cons (pe_fld (pv 0) rfl) (pa_cons (pe_meth (pv 0) CT.c_Match D_Match_numbers_at.me G_Match_numbers_at (hr.mono (by decide)) D_Match_numbers_at.b .nil pass0 (pa_cons (pe_glob (v := .int 2) (by rfl) T.c_KEPT.choose_spec ⟨_, rfl⟩) pa_nil)) pa_nil)))), ?_⟩
  have LB := line_big
  obtain ⟨dx, nv, h1, h2⟩ := hM.at_
  have hwl := hM.wl
  have hln := hM.len
  have hn1 := hM.n1
  have hnl := nums_length 2 0 ws
  refine ⟨_, rfl, x, _, dx, _, _, rfl, h1, CT.c_Match, CT.n_Match_net, mtc_net, ?_⟩
  refine ⟨_, rfl, x, dx, _, rfl, h1, mtc_na, x, lp, n, ts, ws, 2, rfl, hM, hT0, fun H1 a k1 na ha => ?_⟩
  refine ⟨nv, n, ts, a, _, rfl, h2.ke k1, hM.ok, hM.n0, by omega, ha, hM.nums 2, by omega, fun H2 k2 => ?_⟩
  rw [mtc_pick (by omega)]
  exact q _ (k1.trans k2)
theorem ok__law_is_stepped {P : Program} {w : World} {K : PySem.W.Frag} {mg : Str → Option Value} {base : Heap} {tb : List Addr} {f : Addr} {fd : FuncData} {f__law_is_int : Addr} {fd__law_is_int : FuncData} {f__law_joins_all : Addr} {fd__law_joins_all : FuncData} {f__law_is_state : Addr} {fd__law_is_state : FuncData} {f__law_is_true : Addr} {fd__law_is_true : FuncData} {f_Match_state : Addr} {fd_Match_state : FuncData} {f_Match_cuts : Addr} {fd_Match_cuts : FuncData} {f_Match_joined : Addr} {fd_Match_joined : FuncData} (T : Blt mg) (D__law_is_stepped : DefAt K mg "_law_is_stepped" s_law_is_stepped ["_law_web", "_law_match", "_law_ahead", "_law_tie_here", "_law_told", "_law_cuts"] f fd) (CT : Ktx K mg) (D__law_is_int : DefAt K mg "_law_is_int" s_law_is_int ["_law_thing", "_law_least", "_law_most"] f__law_is_int fd__law_is_int) (G__law_is_int : FnOk P w K mg base CX0 1 f__law_is_int fd__law_is_int ["_law_thing", "_law_least", "_law_most"] (sp__law_is_int K tb)) (D__law_joins_all : DefAt K mg "_law_joins_all" s_law_joins_all ["_law_web", "_law_ties"] f__law_joins_all fd__law_joins_all) (G__law_joins_all : FnOk P w K mg base CX0 2 f__law_joins_all fd__law_joins_all ["_law_web", "_law_ties"] (sp__law_joins_all K tb)) (D__law_is_state : DefAt K mg "_law_is_state" s_law_is_state ["_law_web", "_law_cuts", "_law_thing"] f__law_is_state fd__law_is_state) (G__law_is_state : FnOk P w K mg base CX0 4 f__law_is_state fd__law_is_state ["_law_web", "_law_cuts", "_law_thing"] (sp__law_is_state K tb)) (D__law_is_true : DefAt K mg "_law_is_true" s_law_is_true ["_law_found", "_law_due"] f__law_is_true fd__law_is_true) (G__law_is_true : FnOk P w K mg base CX0 1 f__law_is_true fd__law_is_true ["_law_found", "_law_due"] (sp__law_is_true K tb)) (D_Match_state : DefAtM K (He.ga K "Match") "state" "Match.state" s_Match_state ["self"] f_Match_state fd_Match_state) (G_Match_state : FnOk P w K mg base CX0 8 f_Match_state fd_Match_state ["self"] (sp_Match_state K tb)) (D_Match_cuts : DefAtM K (He.ga K "Match") "cuts" "Match.cuts" s_Match_cuts ["self"] f_Match_cuts fd_Match_cuts) (G_Match_cuts : FnOk P w K mg base CX0 8 f_Match_cuts fd_Match_cuts ["self"] (sp_Match_cuts K tb)) (D_Match_joined : DefAtM K (He.ga K "Match") "joined" "Match.joined" s_Match_joined ["self"] f_Match_joined fd_Match_joined) (G_Match_joined : FnOk P w K mg base CX0 8 f_Match_joined fd_Match_joined ["self"] (sp_Match_joined K tb)) :
    FnOk P w K mg base CX0 9 f fd ["_law_web", "_law_match", "_law_ahead", "_law_tie_here", "_law_told", "_law_cuts"] (sp__law_is_stepped K tb) := by
  refine D__law_is_stepped.ok sc__law_is_stepped (fun vs H Q E h => by
    obtain ⟨v, x, lp, n, ts, ws, us, ah, ka, oa, pa, cu, t, y, rfl, W, hM, hO, hO0, hC, hah, hka, hoa, hpa, hcu, hT0, q⟩ := h
    all_goals rfl) fun A outer s H vs Q E hr h => ?_
  obtain ⟨v, x, lp, n, ts, ws, us, ah, ka, oa, pa, cu, t, y, rfl, W, hM, hO, hO0, hC, hah, hka, hoa, hpa, hcu, hT0, q⟩ := h
  refine ⟨_, pss_cons (ps_set (i := 6) sc__law_is_stepped.nd rfl (.inl rfl) (pe_meth0 (pv 1) CT.c_Match D_Match_state.me G_Match_state (hr.mono (by decide)) D_Match_state.b .nil pass0))
     (pss_cons (ps_if (PW.pt (pw_or (pt_not (pt_val (pe_call G__law_is_state (hr.mono (by decide)) (by rfl) D__law_is_state.g D__law_is_state.F.kp D__law_is_state.b .nil pass0 (pa_cons (pv 0) (pa_cons (pv 5) (pa_cons (pv 6) pa_nil)))))) (pw_or1 (pt_cmpR (neDK (K := K) hr.units) (pe_meth0 (pv 1) CT.c_Match D_Match_cuts.me G_Match_cuts (hr.mono (by decide)) D_Match_cuts.b .nil pass0) (pv 5) (nomark _)))))
     (pss_one (ps_ret (pe_bl)))
     (pss_nil))
     (pss_cons (ps_if (pt_not (pt_val (pe_call G__law_is_true (hr.mono (by decide)) (by rfl) D__law_is_true.g D__law_is_true.F.kp D__law_is_true.b .nil pass0 (pa_cons (pe_meth0 (pv 1) CT.c_Match D_Match_joined.me G_Match_joined (hr.mono (by decide)) D_Match_joined.b .nil pass0) (pa_cons (pe_call G__law_joins_all (hr.mono (by decide)) (by rfl) D__law_joins_all.g D__law_joins_all.F.kp D__law_joins_all.b .nil pass0 (pa_cons (pv 0) (pa_cons (pe_ix (ix_tupK (K := K)) (pv 6) (pe_int) (fun _ _ => rfl)) pa_nil))) pa_nil)))))
     (pss_one (ps_ret (pe_bl)))
     (pss_nil))
     (pss_cons (ps_if (PW.pt (pw_and (pt_cmpR (op_eq0 (K := K) hr.units) (pe_ix (ix_tupK (K := K)) (pv 6) (pe_int) (fun _ _ => rfl)) (pe_tup pa_nil) (nomark _)) (pw_and1 (pt_not (pt_val (pe_meth0 (pv 1) CT.c_Match D_Match_joined.me G_Match_joined (hr.mono (by decide)) D_Match_joined.b .nil pass0))))))
     (pss_one (ps_ret (pe_bl)))
     (pss_nil))
     (pss_cons (ps_if (pt_cmpR (notIn_seqK (K := K)) (pv 3) (pe_op (catU (K := K)) (pe_ix (ix_tupK (K := K)) (pv 2) (pe_int) (fun _ _ => rfl)) (pe_ix (ix_tupK (K := K)) (pv 2) (pe_int) (fun _ _ => rfl))) (by rfl))
     (pss_one (ps_ret (pe_and (pe_cmpR op_isN (pv 4) (pe_non) (nomark _)) (pe_one (pe_cmpR (eqDK (K := K) hr.units) (pv 6) (pv 2) (nomark _))))))
     (pss_nil))
     (pss_cons (ps_set (i := 7) sc__law_is_stepped.nd rfl (.inl rfl) (pe_ix (ix_listK (K := K)) (pe_lst (pa_cons (pe_ix (ix_tupK (K := K)) (pv 2) (pe_int) (fun _ _ => rfl)) (pa_cons (pe_ix (ix_tupK (K := K)) (pv 2) (pe_int) (fun _ _ => rfl)) pa_nil))) (pe_callTy call_int1 (by rfl) T.b_int (by decide +kernel) (pa_cons (pe_cmpR (in_seqK (K := K)) (pv 3) (pe_ix (ix_tupK (K := K)) (pv 2) (pe_int) (fun _ _ => rfl)) (by rfl)) pa_nil)) (fun _ _ => rfl)))
     (pss_cons (ps_if (PW.pt (pw_or (pt_not (pt_val (pe_call G__law_is_int (hr.mono (by decide)) (by rfl) D__law_is_int.g D__law_is_int.F.kp D__law_is_int.b .nil pass0 (pa_cons (pv 4) (pa_cons (pe_int) (pa_cons (pe_op op_sub (pe_callB (lenK (K := K)) (by rfl) T.b_len PySem.boot_len (pa_cons (pe_ix (ix_tupK (K := K)) (pv 0) (pe_int) (fun _ _ => rfl)) pa_nil)) (pe_int)) pa_nil)))))) (pw_or1 (pt_cmpR (notIn_seqK (K := K)) (pv 4) (pv 7) (by rfl)))))
     (pss_one (ps_ret (pe_bl)))
     (pss_nil))
     (pss_cons (ps_setLc (i := 10) (own := [("_law_ties", 8)]) rfl sc__law_is_stepped.nd rfl rfl (sw_true rfl rfl rfl (by decide +kernel)) (pi_tup (pe_slice (sl_tupU (K := K)) (pv 2) (po_some (pe_int)) po_none)) (blkOk_by (own := [("_law_ties", 8)]) (N := nm__law_is_stepped) (sc := defScope s_law_is_stepped) (by decide +kernel)) (fun _ _ _ _ _ => pg_name (i := 8) sc__law_is_stepped.nd rfl (.inl rfl)) (fun _ _ _ _ _ => pts_nil) (fun _ _ _ _ _ => pe_callTy (tupleK (K := K)) (by rfl) T.b_tuple (by decide +kernel) (pa_cons (pe_lc (own := [("_law_own", 9)]) rfl sc__law_is_stepped.nd ((pi_tupK (K := K)) (pv 8)) (blkOk_by (own := [("_law_own", 9)]) (N := nm__law_is_stepped) (sc := relS csc__law_is_stepped_13_16 (defScope s_law_is_stepped)) (by decide +kernel)) (fun _ _ _ _ _ => pg_name (i := 9) sc__law_is_stepped.nd rfl (.inl rfl)) (fun _ _ _ _ _ => pts_one (pt_cmpR (notIn_seqK (K := K)) (pv 9) (pe_lst (pa_cons (pv 3) (pa_cons (pv 4) pa_nil))) (by rfl))) (fun _ _ _ _ _ => pv 9)) pa_nil)))
     (pss_one (ps_ret (pe_cmpR (eqDK (K := K) hr.units) (pv 6) (pe_tup (pa_cons (pe_callTy (tupleK (K := K)) (by rfl) T.b_tuple (by decide +kernel) (pa_cons (pe_callB cr_sortedTI (by rfl) T.b_sorted (by decide +kernel) (pa_cons (pe_op (catU (K := K)) (pe_ix (ix_tupK (K := K)) (pv 2) (pe_int) (fun _ _ => rfl)) (pe_tup (pa_cons (pv 4) pa_nil))) pa_nil)) pa_nil)) (pa_cons (pe_ix (ix_listK (K := K)) (pv 10) (pe_int) (fun _ _ => rfl)) (pa_cons (pe_ix (ix_listK (K := K)) (pv 10) (pe_int) (fun _ _ => rfl)) pa_nil)))) (nomark _))))))))))), ?_⟩
  have LB := line_big
  obtain ⟨dx, nv, h1, h2⟩ := hM.at_
  have hwl := hM.wl
  have hln := hM.len
  have hn0 := hM.n0
  have hn1 := hM.n1
  refine ⟨_, rfl, x, dx, _, rfl, h1, mtc_state, x, lp, n, ts, us, rfl, hM, hT0, fun H1 st sa sb sc k1 nst hst hsa hsb hsc => ?_⟩
  have M1 := hM.ke k1
  obtain ⟨dx1, nv1, g1, _⟩ := M1.at_
  have W1 := W.ke k1
  refine ⟨_, rfl, _, rfl, _, rfl, v, n, ts, us, cu, st, sa, sb, sc, rfl, W1, hM.ok, hn0, hn1, hwl, hln, hO, k1.tup hcu, hst, hsa, hsb, hsc, fun H2 k2 => ?_⟩
  refine ⟨_, rfl, (if_neg Bool.false_ne_true).mpr ?_⟩
  have M2 := M1.ke k2
  obtain ⟨dx2, nv2, e1, _⟩ := M2.at_
  have T2 := (hT0.kx k1).kx k2
  refine ⟨_, rfl, x, dx2, _, rfl, e1, mtc_cuts, x, lp, n, ts, us, rfl, M2, T2, fun H3 cc k3 ncc hcc => ?_⟩
  have M3 := M2.ke k3
  have k123 := k1.trans (k2.trans k3)
  refine ⟨_, rfl, .tuple ((numsFrom 3 0 us).map PyData.int), .tuple ((numsFrom 3 0 us).map PyData.int), .tup (sqT_of hcc) (dp_ints _), .tup (sqT_of (Ke.tup k123 hcu)) (dp_ints _), shaped_tints _, shaped_tints _, ?_⟩
  rw [eqv_itups, decide_eq_true rfl]
  refine ⟨_, rfl, iteF ?_⟩
  obtain ⟨dx3, nv3, f1, _⟩ := M3.at_
  have T3 := T2.kx k3
  have k23 := k2.trans k3
  refine ⟨_, rfl, x, dx3, _, rfl, f1, mtc_joined, x, lp, n, ts, us, rfl, M3, T3, fun H4 k4 => ?_⟩
  have k234 := k23.trans k4
  refine ⟨_, rfl, _, rfl, st, _, 0, _, rfl, rfl, sqT_of (Ke.tup k234 hst), atI_nat (j := 0) rfl, ?_⟩
  have rng := hM.nums 2
  have nl2 := nums_length 2 0 us
  refine ⟨v, n, ts, sa, _, rfl, W1.ke k234, hM.ok, hn0, hn1, Ke.tup k234 hsa, rng, by omega, fun H5 k5 => ?_⟩
  rw [kept_joined hn0 hM.ok hwl hO]
  refine ⟨_, _, rfl, ?_⟩
  rw [decide_eq_true rfl]
  refine ⟨_, rfl, iteF ?_⟩
  have k2345 := k234.trans k5
  have kA := k1.trans k2345
  have M5 := M3.ke (k4.trans k5)
  have T5 := (T3.kx k4).kx k5
  have hst5 := Ke.tup k2345 hst
  have hsa5 := Ke.tup k2345 hsa
  have hsb5 := Ke.tup k2345 hsb
  have hsc5 := Ke.tup k2345 hsc
  have hah5 := Ke.tup kA hah
  have hka5 := Ke.tup kA hka
  have hoa5 := Ke.tup kA hoa
  have hpa5 := Ke.tup kA hpa
  clear k1 k2 k3 k4 k5 k123 k23 k234 k2345 M1 M2 M3 T2 T3 g1 e1 f1 hst hsa hsb hsc hcc
  obtain ⟨dx5, nv5, i1, _⟩ := M5.at_
  refine ⟨_, rfl, st, _, 1, _, rfl, rfl, sqT_of hst5, atI_nat (j := 1) rfl, ?_⟩
  refine ⟨by show 0 ≤ sizeLine; decide, fun z nz => ?_⟩
  have kz := Ke.new (S := fun _ => False) (o := .tup []) nz
  have gz : (upd H5 z (.tup [])) z = some (.tup []) := upd_same
  have M6 := M5.ke kz
  have T6 := T5.kx kz
  have hsb6 := Ke.tup kz hsb5
  have kA6 := kA.trans kz
  have hst6 := Ke.tup kz hst5
  have hsa6 := Ke.tup kz hsa5
  have hsc6 := Ke.tup kz hsc5
  have hah6 := Ke.tup kz hah5
  have hka6 := Ke.tup kz hka5
  have hoa6 := Ke.tup kz hoa5
  have hpa6 := Ke.tup kz hpa5
  clear hst5 hsa5 hsb5 hsc5 hah5 hka5 hoa5 hpa5 kA T5 M5 i1
  generalize upd H5 z _ = H6 at *
  obtain ⟨dx6, nv6, i1, _⟩ := M6.at_
  apply share1 (R1 := fun G => Ke H6 G)
  case main =>
    intro fin
    refine ⟨sb, z, _, rfl, rfl, sqT_of hsb6, sqT_of gz, ?_⟩
    by_cases he : numsFrom 0 0 us = []
    · rw [he]
      refine ⟨_, rfl, iteT ?_⟩
      refine ⟨_, rfl, x, dx6, _, rfl, i1, mtc_joined, x, lp, n, ts, us, rfl, M6, T6, fun H7 k7 => ?_⟩
      rw [joined_end hn0 hM.ok hwl hO he]
      refine ⟨_, rfl, iteF ?_⟩
      exact fin _ k7
    · have e : ((numsFrom 0 0 us).map V.int).isEmpty = false := by
        cases q : numsFrom 0 0 us with
        | nil => exact absurd q he
        | cons _ _ => rfl
      rw [e]
      refine ⟨_, rfl, iteF ?_⟩
      exact fin _ .refl
  case h1 =>
    intro G kG
    have M7 := M6.ke kG
    have T7 := T6.kx kG
    have kB := kA6.trans kG
    have hst7 := Ke.tup kG hst6
    have hsa7 := Ke.tup kG hsa6
    have hsb7 := Ke.tup kG hsb6
    have hsc7 := Ke.tup kG hsc6
    have hah7 := Ke.tup kG hah6
    have hka7 := Ke.tup kG hka6
    have hoa7 := Ke.tup kG hoa6
    have hpa7 := Ke.tup kG hpa6
    clear hst6 hsa6 hsb6 hsc6 hah6 hka6 hoa6 hpa6 kA6 T6 M6 i1 kz gz nz kG
    have wl0 := hC.len
    have nl0 := nums_length 0 0 ws
    have nl1 := nums_length 1 0 ws
    have nlk := nums_length 2 0 ws
    refine ⟨_, rfl, _, rfl, ah, _, 1, _, rfl, rfl, sqT_of hah7, atI_nat (j := 1) rfl, _, rfl, ah, _, 2, _, rfl, rfl, sqT_of hah7, atI_nat (j := 2) rfl, oa, pa, _, _, rfl, rfl, hoa7, hpa7, by rw [List.length_map, List.length_map]; omega, fun c H8 k8 h8 => ?_⟩
    rw [← List.map_append] at h8
    refine ⟨c, _, rfl, .inr (sqT_of h8), rfl, List.all_eq_true.mpr (fun z hz => by obtain ⟨_, _, rfl⟩ := List.mem_map.mp hz; rfl), _, rfl, ?_⟩
    rw [if_pos rfl, inV_int]
    have hC' := hC
    obtain ⟨vt, hv, hv2, hv3, hc⟩ := hC'
    rcases hc with ⟨rfl, rfl, rfl⟩ | ⟨b, g, rfl, rfl, hbr, rfl, hb, g0, g1⟩
    · have hno : ∀ k : Int, (t : Int) ∉ numsFrom k 0 ws := fun k z => by
        have := (nums_iff.mp z).2
        rw [Int.toNat_natCast, hv] at this
        cases this
      rw [decide_eq_false fun z => (List.mem_append.mp z).elim (hno 0) (hno 1)]
      refine iteT ?_
      rw [nums_non hv (by decide)] at hsa7 hsb7 hsc7
      refine ⟨_, rfl, rfl, _, rfl, (if_pos rfl).mpr ?_⟩
      refine ⟨_, rfl, _, rfl, _, _, dp_st (Ke.tup k8 hst7) (Ke.tup k8 hsa7) (Ke.tup k8 hsb7) (Ke.tup k8 hsc7), dp_st (Ke.tup k8 hah7) (Ke.tup k8 hka7) (Ke.tup k8 hoa7) (Ke.tup k8 hpa7), shaped_lots _, shaped_lots _, ?_⟩
      rw [eqv_lots]
      exact q _ (kB.trans k8)
    · have hg : g = 0 ∨ g = 1 := by omega
      have hin : (t : Int) ∈ numsFrom g 0 ws := nums_iff.mpr ⟨by omega, by rw [Int.toNat_natCast]; exact hv⟩
      have hin2 : (t : Int) ∈ numsFrom 0 0 ws ++ numsFrom 1 0 ws := by
        rcases hg with e | e
        · rw [e] at hin; exact List.mem_append_left _ hin
        · rw [e] at hin; exact List.mem_append_right _ hin
      rw [decide_eq_true hin2]
      refine iteF ?_
      have kD := kB.trans k8
      have hst8 := Ke.tup k8 hst7
      have hsa8 := Ke.tup k8 hsa7
      have hsb8 := Ke.tup k8 hsb7
      have hsc8 := Ke.tup k8 hsc7
      have hah8 := Ke.tup k8 hah7
      have hka8 := Ke.tup k8 hka7
      have hoa8 := Ke.tup k8 hoa7
      have hpa8 := Ke.tup k8 hpa7
      clear hst7 hsa7 hsb7 hsc7 hah7 hka7 hoa7 hpa7 h8
      refine ⟨_, rfl, ah, _, 1, _, rfl, rfl, sqT_of hah8, atI_nat (j := 1) rfl, _, rfl, ah, _, 2, _, rfl, rfl, sqT_of hah8, atI_nat (j := 2) rfl, by show 2 ≤ sizeLine; decide, fun a na => ?_⟩
      have kaa := Ke.new (S := fun _ => False) (o := .lst [.ref oa, .ref pa]) na
      have hga : (upd H8 a (.lst [.ref oa, .ref pa])) a = some (.lst [.ref oa, .ref pa]) := upd_same
      have kE := kD.trans kaa
      have hst9 := Ke.tup kaa hst8
      have hsa9 := Ke.tup kaa hsa8
      have hsb9 := Ke.tup kaa hsb8
      have hsc9 := Ke.tup kaa hsc8
      have hah9 := Ke.tup kaa hah8
      have hka9 := Ke.tup kaa hka8
      have hoa9 := Ke.tup kaa hoa8
      have hpa9 := Ke.tup kaa hpa8
      clear hst8 hsa8 hsb8 hsc8 hah8 hka8 hoa8 hpa8 
      generalize upd H8 a _ = H9 at *
      obtain ⟨gv, hsel, hgv⟩ : ∃ gv, atI [V.ref oa, V.ref pa] (if decide ((t : Int) ∈ numsFrom 0 0 ws) = true then 1 else 0) = some (.ref gv) ∧ H9 gv = some (.tup ((numsFrom (1 - g) 0 ws).map V.int)) := by
        rcases hg with rfl | rfl
        · rw [decide_eq_true hin]
          exact ⟨pa, rfl, hpa9⟩
        · rw [decide_eq_false fun z => absurd (nums_apart z hin) (by decide)]
          exact ⟨oa, rfl, hoa9⟩
      refine ⟨_, rfl, _, rfl, ah, _, 1, _, rfl, rfl, sqT_of hah9, atI_nat (j := 1) rfl, oa, _, rfl, .inr (sqT_of hoa9), rfl, List.all_eq_true.mpr (fun z hz => by obtain ⟨_, _, rfl⟩ := List.mem_map.mp hz; rfl), .inr ⟨_, rfl, ?_⟩⟩
      refine ⟨a, _, _, _, rfl, rfl, sqL_of hga, (by rw [if_neg Bool.false_ne_true, inV_int]; exact hsel), ?_⟩
      have bl := (List.getElem?_eq_some_iff.mp hb).1
      rw [List.length_set] at bl
      have hwl0 : ws.length = ts.length := by omega
      obtain ⟨tw, wu, rs, rfl, htw, hwu, hT⟩ := id (W.ke kE)
      have hrl := hT.length
      refine ⟨_, rfl, _, rfl, tw, _, 1, _, rfl, rfl, sqT_of htw, atI_nat (j := 1) rfl, wu, _, rfl, .inr (sqT_of hwu), _, _, rfl, rfl, .int (b : Int), 0, _, "int", rfl, .int (b : Int), ?_⟩
      rw [show isNum (.int (b : Int)) 0 ((rs.length : Int) - 1) = true by show (decide (0 ≤ (b : Int)) && decide ((b : Int) ≤ (rs.length : Int) - 1)) = true; rw [decide_eq_true (by omega : 0 ≤ (b : Int)), decide_eq_true (by omega : (b : Int) ≤ (rs.length : Int) - 1)]; rfl]
      refine ⟨_, rfl, (if_neg Bool.false_ne_true).mpr ?_⟩
      have hbm : (b : Int) ∈ numsFrom (1 - g) 0 ws := by
        have hbb : b ≠ t := fun e => by
          rw [e, List.getElem?_set_self (by omega)] at hb
          have := V.int.inj (Option.some.inj hb)
          omega
        rw [List.getElem?_set_ne (Ne.symm hbb)] at hb
        exact nums_iff.mpr ⟨by omega, by rw [Int.toNat_natCast]; exact hb⟩
      refine ⟨_, rfl, _, rfl, gv, _, rfl, .inr (sqT_of hgv), rfl, List.all_eq_true.mpr (fun z hz => by obtain ⟨_, _, rfl⟩ := List.mem_map.mp hz; rfl), _, rfl, ?_⟩
      rw [if_pos rfl, inV_int, decide_eq_true hbm]
      refine iteF ?_
      refine ⟨_, rfl, _, rfl, ah, _, rfl, hah9, fun c H10 k10 hc => ?_⟩
      have hc : H10 c = some (.tup [.ref oa, .ref pa]) := hc
      have hoa10 := Ke.tup k10 hoa9
      have hpa10 := Ke.tup k10 hpa9
      have hL : Lots H10 [.ref oa, .ref pa] [numsFrom 0 0 ws, numsFrom 1 0 ws] := .cons ⟨oa, rfl, hoa10⟩ (.cons ⟨pa, rfl, hpa10⟩ .nil)
      refine ⟨c, rfl, ⟨_, sqT_of hc⟩, fun D nD => ?_⟩
      refine lc_it (walk_tup (K := K) (a := c) (xs := [.ref oa, .ref pa])) (fun i G => Ke H10 G ∧ ∃ xs, G D = some (.lst xs) ∧ Lots G xs (([numsFrom 0 0 ws, numsFrom 1 0 ws].take i).map fun l => l.filter fun m => !decide (m ∈ [(t : Int), (b : Int)]))) ⟨Ke.new nD, [], upd_same, .nil⟩ (fun i G _ hG => sqT_of (hG.1.tup hc)) (fun i x G G' hi hG hy => ?_) (fun G hG => ?_)
      · obtain ⟨kG, xs, gD, hX⟩ := hG
        obtain ⟨rfl, hx⟩ := hy
        obtain ⟨ls, q1, els, rfl, hq1⟩ := hL.get hx
        have hxl := hX.length
        refine ⟨rfl, yes_ite ?_⟩
        have hq1' := kG.tup hq1
        refine ⟨_, rfl, q1, rfl, ⟨_, sqT_of hq1'⟩, fun E nE => ?_⟩
        refine lc_tup (K := K) (a := q1) (xs := ls.map V.int) (fun j J => Ke G' J ∧ J E = some (.lst (((ls.take j).filter fun m => !decide (m ∈ [(t : Int), (b : Int)])).map V.int))) ⟨Ke.new nE, upd_same⟩ (fun j J _ hJ => sqT_of (hJ.1.tup hq1')) (fun j y J hy hJ => ?_) (fun J hJ => ?_)
        · obtain ⟨kJ, gE⟩ := hJ
          obtain ⟨m, hm, rfl⟩ := int_at hy
          refine ⟨rfl, _, rfl, _, rfl, _, rfl, by show 2 ≤ sizeLine; decide, fun z nz => ?_⟩
          refine ⟨z, [.int (t : Int), .int (b : Int)], rfl, .inl (sqL_of upd_same), rfl, rfl, _, rfl, ?_⟩
          have e1 : inV (V.int m) [V.int (t : Int), V.int (b : Int)] = decide (m ∈ [(t : Int), (b : Int)]) := inV_int m [(t : Int), (b : Int)]
          rw [if_pos rfl, e1]
          have gE2 := lst_new (o := .lst [V.int (t : Int), V.int (b : Int)]) nz gE
          have kJ2 := kJ.trans (Ke.new (o := .lst [V.int (t : Int), V.int (b : Int)]) nz)
          generalize upd J z _ = J2 at *
          have ll : ls.length ≤ 120 := by
            rcases i with _ | _ | i
            · cases els; omega
            · cases els; omega
            · cases els
          have lf : ((ls.take j).filter fun m => !decide (m ∈ [(t : Int), (b : Int)])).length ≤ 120 := by
            have := List.length_filter_le (fun m => !decide (m ∈ [(t : Int), (b : Int)])) (ls.take j)
            rw [List.length_take] at this
            omega
          rw [take_next hm, List.filter_append]
          by_cases cm : m ∈ [(t : Int), (b : Int)]
          · rw [decide_eq_true cm]
            refine iteF ⟨kJ2, ?_⟩
            rw [List.filter_cons_of_neg (by rw [decide_eq_true cm]; decide), List.filter_nil, List.append_nil]
            exact gE2
          · rw [decide_eq_false cm]
            refine iteT ⟨_, rfl, _, gE2, by rw [List.length_map]; omega, kJ2.over nE, ?_⟩
            rw [List.filter_cons_of_pos (by rw [decide_eq_false cm]; rfl), List.filter_nil, List.map_append]
            exact upd_same
        · obtain ⟨kJ, gE⟩ := hJ
          rw [List.length_map, List.take_length] at gE
          have gD2 := kJ.lst gD
          refine ⟨E, _, rfl, .inl ⟨sqL_of gE, fun q2 nq2 => ?_⟩⟩
          have gD3 := lst_new (o := .tup ((ls.filter fun m => !decide (m ∈ [(t : Int), (b : Int)])).map V.int)) nq2 gD2
          have kJ3 := kJ.trans (Ke.new (o := .tup ((ls.filter fun m => !decide (m ∈ [(t : Int), (b : Int)])).map V.int)) nq2)
          refine ⟨xs, gD3, by rw [hxl, List.length_map, List.length_take]; have := LB; simp; omega, (kG.trans kJ3).over nD, _, upd_same, ?_⟩
          rw [take_next els, List.map_append]
          exact ((hX.ke kJ3).put gD3).append (Lots.one (by rw [upd_ne (ne_of_none gD2 nq2).symm]; exact upd_same))
      obtain ⟨kG, xs, gD, hX⟩ := hG
      have hX : Lots G xs [(numsFrom 0 0 ws).filter fun m => !decide (m ∈ [(t : Int), (b : Int)]), (numsFrom 1 0 ws).filter fun m => !decide (m ∈ [(t : Int), (b : Int)])] := hX
      rw [← nums_left hv g0 g1 hb (by decide) (by decide), ← nums_left hv g0 g1 hb (by decide) (by decide)] at hX
      cases hX with
      | cons h0 r0 =>
      cases r0 with
      | cons h1' r1 =>
      cases r1
      obtain ⟨q0, rfl, hq0⟩ := h0
      obtain ⟨q1, rfl, hq1⟩ := h1'
      have k0G := k10.trans kG
      refine ⟨_, rfl, _, rfl, ah, _, 0, _, rfl, rfl, sqT_of (Ke.tup k0G hah9), atI_nat (j := 0) rfl, _, rfl, by show 1 ≤ sizeLine; decide, fun z nz => ?_⟩
      have kz := Ke.new (S := fun _ => False) (o := .tup [.int (b : Int)]) nz
      have hz : (upd G z (.tup [.int (b : Int)])) z = some (.tup ([(b : Int)].map V.int)) := upd_same
      have hka11 := Ke.tup (k0G.trans kz) hka9
      have gD11 := lst_new (o := .tup [.int (b : Int)]) nz gD
      generalize upd G z _ = H11 at *
      refine ⟨ka, z, _, _, rfl, rfl, hka11, hz, by rw [List.length_map, List.length_map]; show (numsFrom 2 0 ws).length + 1 ≤ _; omega, fun c2 H12 k12 h12 => ?_⟩
      rw [← List.map_append] at h12
      refine ⟨c2, _, rfl, sqT_of h12, fun ms p hp hs np => ?_⟩
      have hms : ms = numsFrom 2 0 ((ws.set t (.int 3)).set b (.int 2)) := up_perm hp hs (nd_snoc (nums_nd _ _ _) fun z => by have := nums_apart z hbm; omega) (nums_up _ _ _) fun m => by rw [nums_kept hv g0 g1 hb m, List.mem_append, List.mem_singleton]
      rw [hms]
      have k13 := k12.trans (Ke.new (o := .lst ((numsFrom 2 0 ((ws.set t (.int 3)).set b (.int 2))).map V.int)) np)
      have gp : (upd H12 p (.lst ((numsFrom 2 0 ((ws.set t (.int 3)).set b (.int 2))).map V.int))) p = some (.lst ((numsFrom 2 0 ((ws.set t (.int 3)).set b (.int 2))).map V.int)) := upd_same
      generalize upd H12 p _ = H13 at *
      refine ⟨p, _, rfl, .inl ⟨sqL_of gp, fun w nw => ?_⟩⟩
      have k14 := k13.trans (Ke.new (o := .tup ((numsFrom 2 0 ((ws.set t (.int 3)).set b (.int 2))).map V.int)) nw)
      have gw : (upd H13 w (.tup ((numsFrom 2 0 ((ws.set t (.int 3)).set b (.int 2))).map V.int))) w = some (.tup ((numsFrom 2 0 ((ws.set t (.int 3)).set b (.int 2))).map V.int)) := upd_same
      generalize upd H13 w _ = H14 at *
      refine ⟨_, rfl, D, _, 0, _, rfl, rfl, sqL_of (Ke.lst k14 gD11), atI_nat (j := 0) rfl, _, rfl, D, _, 1, _, rfl, rfl, sqL_of (Ke.lst k14 gD11), atI_nat (j := 1) rfl, by show 3 ≤ sizeLine; decide, fun u nu => ?_⟩
      have k15 := Ke.new (S := fun _ => False) (o := .tup [.ref w, .ref q0, .ref q1]) nu
      have kF := kz.trans (k14.trans k15)
      refine ⟨_, _, dp_st (Ke.tup (k0G.trans kF) hst9) (Ke.tup (k0G.trans kF) hsa9) (Ke.tup (k0G.trans kF) hsb9) (Ke.tup (k0G.trans kF) hsc9), dp_st upd_same (Ke.tup k15 gw) (Ke.tup kF hq0) (Ke.tup kF hq1), shaped_lots _, shaped_lots _, ?_⟩
      rw [eqv_lots]
      exact q _ (kE.trans (k0G.trans kF))
theorem ok_Match_bridge_for {P : Program} {w : World} {K : PySem.W.Frag} {mg : Str → Option Value} {base : Heap} {tb : List Addr} {f : Addr} {fd : FuncData} {f_join_points : Addr} {fd_join_points : FuncData} {f_Match_numbers_at : Addr} {fd_Match_numbers_at : FuncData} (T : Blt mg) (D_Match_bridge_for : DefAtM K (He.ga K "Match") "bridge_for" "Match.bridge_for" s_Match_bridge_for ["self", "place"] f fd) (CT : Ktx K mg) (D_join_points : DefAt K mg "join_points" s_join_points ["leaders", "a", "b"] f_join_points fd_join_points) (G_join_points : FnOk P w K mg base CX0 2 f_join_points fd_join_points ["leaders", "a", "b"] (sp_join_points K tb)) (D_Match_numbers_at : DefAtM K (He.ga K "Match") "numbers_at" "Match.numbers_at" s_Match_numbers_at ["self", "place"] f_Match_numbers_at fd_Match_numbers_at) (G_Match_numbers_at : FnOk P w K mg base CX0 7 f_Match_numbers_at fd_Match_numbers_at ["self", "place"] (sp_Match_numbers_at K tb)) :
    FnOk P w K mg base CX0 8 f fd ["self", "place"] (sp_Match_bridge_for K tb) := by
  refine D_Match_bridge_for.ok sc_Match_bridge_for (fun vs H Q E h => by
    obtain ⟨x, lp, n, ts, ws, g, rfl, hM, hg0, hg1, hex, hT0, q⟩ := h
    all_goals rfl) fun A outer s H vs Q E hr h => ?_
  obtain ⟨x, lp, n, ts, ws, g, rfl, hM, hg0, hg1, hex, hT0, q⟩ := h
  refine ⟨_, pss_cons (ps_set (i := 2) sc_Match_bridge_for.nd rfl (.inl rfl) (pe_listRg rfl (by rfl) T.b_list (prg_1 (by rfl) T.b_range (pe_ix (ix_tupK (K := K)) (pe_fld (pv 0) rfl) (pe_int) (fun _ _ => rfl)))))
     (pss_cons (ps_for PassesOwn.never rfl (pi_tup (pe_op (catU (K := K)) (pe_meth (pv 0) CT.c_Match D_Match_numbers_at.me G_Match_numbers_at (hr.mono (by decide)) D_Match_numbers_at.b .nil pass0 (pa_cons (pe_glob (v := .int 2) (by rfl) T.c_KEPT.choose_spec ⟨_, rfl⟩) pa_nil)) (pe_meth (pv 0) CT.c_Match D_Match_numbers_at.me G_Match_numbers_at (hr.mono (by decide)) D_Match_numbers_at.b .nil pass0 (pa_cons (pv 1) pa_nil)))) (pg_name (i := 3) sc_Match_bridge_for.nd rfl (.inl rfl))
     (pss_cons (ps_asg (pe_ix (ix_tupK (K := K)) (pe_ix (ix_tupK (K := K)) (pe_fld (pv 0) rfl) (pe_int) (fun _ _ => rfl)) (pv 3) (fun _ _ => rfl)) (tgtK (K := K) (n := 2) (pgs_cons (pg_name (i := 4) sc_Match_bridge_for.nd rfl (.inl rfl)) (pgs_cons (pg_name (i := 5) sc_Match_bridge_for.nd rfl (.inl rfl)) pgs_nil))))
     (pss_one (ps_expr (pe_call G_join_points (hr.mono (by decide)) (by rfl) D_join_points.g D_join_points.F.kp D_join_points.b .nil pass0 (pa_cons (pv 2) (pa_cons (pv 4) (pa_cons (pv 5) pa_nil))))))))
     (pss_cons (ps_for PassesOwn.never rfl (pi_tup (pe_meth (pv 0) CT.c_Match D_Match_numbers_at.me G_Match_numbers_at (hr.mono (by decide)) D_Match_numbers_at.b .nil pass0 (pa_cons (pe_op op_sub (pe_op op_add (pe_glob (v := .int 0) (by rfl) T.c_ONE.choose_spec ⟨_, rfl⟩) (pe_glob (v := .int 1) (by rfl) T.c_OTHER.choose_spec ⟨_, rfl⟩)) (pv 1)) pa_nil))) (pg_name (i := 3) sc_Match_bridge_for.nd rfl (.inl rfl))
     (pss_cons (ps_asg (pe_ix (ix_tupK (K := K)) (pe_ix (ix_tupK (K := K)) (pe_fld (pv 0) rfl) (pe_int) (fun _ _ => rfl)) (pv 3) (fun _ _ => rfl)) (tgtK (K := K) (n := 2) (pgs_cons (pg_name (i := 4) sc_Match_bridge_for.nd rfl (.inl rfl)) (pgs_cons (pg_name (i := 5) sc_Match_bridge_for.nd rfl (.inl rfl)) pgs_nil))))
     (pss_one (ps_if (pt_val (pe_call G_join_points (hr.mono (by decide)) (by rfl) D_join_points.g D_join_points.F.kp D_join_points.b .nil pass0 (pa_cons (pv 2) (pa_cons (pv 4) (pa_cons (pv 5) pa_nil)))))
     (pss_one (ps_ret (pv 3)))
     (pss_nil)))))
     (pss_one (ps_ret (pe_non))))), ?_⟩
  have LB := line_big
  obtain ⟨dx, nv, h1, h2⟩ := hM.at_
  obtain ⟨t, u, rs, rfl, ht, hu, hT⟩ := id h2
  have hrl := hT.length
  have hn0 := hM.n0
  have hn1 := hM.n1
  have hwl := hM.wl
  have hln := hM.len
  have hok := hM.ok
  have hnl2 := nums_length 2 0 ws
  have hnlg := nums_length g 0 ws
  have hnlh := nums_length (1 - g) 0 ws
  refine ⟨_, rfl, x, _, dx, _, _, rfl, h1, CT.c_Match, CT.n_Match_net, mtc_net, t, _, 0, _, rfl, rfl, sqT_of ht, atI_nat (j := 0) rfl, ?_⟩
  refine ⟨n, rfl, ⟨by omega, by omega, by omega, by omega, by omega⟩, fun l nl => ?_⟩
  have k0 := Ke.new (S := fun _ => False) (o := .lst (rgV 0 n)) nl
  have gl0 : (upd H l (.lst (rgV 0 n))) l = some (.lst ((upTo n).map V.int)) := by rw [← rgV_up]; exact upd_same
  generalize upd H l _ = H0 at *
  have M0 := hM.ke k0
  obtain ⟨dx0, nv0, g1, _⟩ := M0.at_
  refine ⟨_, rfl, x, dx0, _, rfl, g1, mtc_na, x, lp, n, ts, ws, 2, rfl, M0, hT0.kx k0, fun H1 a k1 na ha => ?_⟩
  have M1 := M0.ke k1
  obtain ⟨dx1, nv1, f1, _⟩ := M1.at_
  refine ⟨_, rfl, x, dx1, _, rfl, f1, mtc_na, _, rfl, x, lp, n, ts, ws, g, rfl, M1, (hT0.kx k0).kx k1, fun H2 b k2 nb hb => ?_⟩
  refine ⟨a, b, _, _, rfl, rfl, k2.tup ha, hb, by rw [List.length_map, List.length_map]; omega, fun c H3 k3 hc => ?_⟩
  rw [← List.map_append] at hc
  have kA := k0.trans (k1.trans (k2.trans k3))
  have gl3 := Ke.lst (k1.trans (k2.trans k3)) gl0
  have hrng : ∀ m ∈ trN ws g, 0 ≤ m ∧ m < (ts.length : Int) := fun m hm => (List.mem_append.mp hm).elim (hM.nums 2 m) (hM.nums g m)
  refine ⟨c, rfl, ⟨_, sqT_of hc⟩, ?_⟩
  refine for_tup (K := K) (a := c) (xs := (trN ws g).map V.int) (fun i σ G => ∃ (y3 y4 y5 : Option V) (ls : List Int) (d : Int → Nat), σ = [some (.ref x), some (.int g), some (.ref l), y3, y4, y5] ∧ Ke H G ∧ Kx (fun b => b = l) H3 G ∧ G l = some (.lst (ls.map V.int)) ∧ UF n ls (foldR (fun x => x) (pick ts ((trN ws g).take i))) d) ⟨_, _, _, upTo n, _, rfl, kA, Kx.refl, gl3, UF.start (by omega)⟩ (fun i σ G _ hG => ?_) (fun i y σ G hx hG => ?_) (fun σ G hG => ?_)
  · obtain ⟨_, _, _, _, _, _, _, kx, _⟩ := hG
    exact sqT_of (kx.tup hc fun e => by rw [e, gl3] at hc; cases hc)
  · obtain ⟨y3, y4, y5, ls, d, rfl, kG, kx, gl, U⟩ := hG
    obtain ⟨m, hm0, rfl⟩ := int_at hx
    obtain ⟨m0, m1⟩ := hrng m (List.mem_of_getElem? hm0)
    obtain ⟨e, he, hq⟩ := hT.at_ m0 m1
    have ok := hok _ (List.mem_of_getElem? (getD_at m0 m1))
    have ok1 := ok.1
    have ok2 := ok.2.1
    have ok3 := ok.2.2
    have ep : pick ts ((trN ws g).take (i + 1)) = pick ts ((trN ws g).take i) ++ [ts.getD m.toNat (0, 0)] := by rw [take_next hm0, pick_append]; rfl
    obtain ⟨w, hw⟩ : ∃ w, w = ts.getD m.toNat (0, 0) := ⟨_, rfl⟩
    rw [← hw] at ok1 ok2 ok3 hq ep
    obtain ⟨dxG, nvG, fG, _⟩ := (hM.ke kG).at_
    have hxG := kG.at_ _ _ h1 (fun _ z => nomatch z) (fun z => z)
    refine ⟨_, rfl, x, _, dx, _, _, rfl, hxG, CT.c_Match, CT.n_Match_net, mtc_net, t, _, 1, _, rfl, rfl, sqT_of (kG.tup ht), atI_nat (j := 1) rfl, _, rfl, u, _, m, _, rfl, rfl, sqT_of (kG.tup hu), he, ?_⟩
    refine ⟨e, _, rfl, sqT_of (kG.tup hq), rfl, _, _, rfl, _, [], rfl, rfl, ?_⟩
    refine ⟨_, rfl, _, rfl, _, rfl, l, ls, n, _, d, w.1, w.2, rfl, gl, U, ok1, Int.lt_trans ok2 ok3, Int.le_trans ok1 (Int.le_of_lt ok2), ok3, fun ls' d' U' => ?_⟩
    exact ⟨_, _, _, ls', d', rfl, kG.over nl, kx.trans (Ke.put gl fun _ z => nomatch z), upd_same, by rw [ep, foldR_snoc]; exact U'⟩
  obtain ⟨y3, y4, y5, ls, d, rfl, kG, kx, gl, U⟩ := hG
  rw [List.length_map, List.take_length] at U
  clear kx
  have MG := hM.ke kG
  obtain ⟨dxG, nvG, fG, _⟩ := MG.at_
  refine ⟨_, rfl, x, dxG, _, rfl, fG, mtc_na, _, _, rfl, rfl, _, rfl, _, _, rfl, rfl, x, lp, n, ts, ws, 1 - g, rfl, MG, hT0.kx kG, fun H5 c2 k5 nc2 hc2 => ?_⟩
  have gl5 := k5.lst gl
  have kB := kG.trans k5
  refine ⟨c2, rfl, ⟨_, sqT_of hc2⟩, ?_⟩
  refine for_tup (K := K) (a := c2) (xs := (numsFrom (1 - g) 0 ws).map V.int) (fun i σ G => ∃ (y3 y4 y5 : Option V) (ls : List Int) (d : Int → Nat), σ = [some (.ref x), some (.int g), some (.ref l), y3, y4, y5] ∧ Ke H G ∧ Kx (fun b => b = l) H5 G ∧ G l = some (.lst (ls.map V.int)) ∧ UF n ls (foldR (fun x => x) (pick ts (trN ws g))) d ∧ ∀ m ∈ (numsFrom (1 - g) 0 ws).take i, jn ts (trN ws g) (tk ts m).1 (tk ts m).2) ⟨_, _, _, ls, d, rfl, kB, Kx.refl, gl5, U, (fun _ z => nomatch z)⟩ (fun i σ G _ hG => ?_) (fun i y σ G hx hG => ?_) (fun σ G hG => ?_)
  · obtain ⟨_, _, _, _, _, _, _, kx, _⟩ := hG
    exact sqT_of (kx.tup hc2 fun e => by rw [e, gl5] at hc2; cases hc2)
  · obtain ⟨y3, y4, y5, ls, d, rfl, kG, kx, gl, U, hall⟩ := hG
    obtain ⟨m, hm0, rfl⟩ := int_at hx
    have hmm := List.mem_of_getElem? hm0
    obtain ⟨m0, m1⟩ := hM.nums (1 - g) m hmm
    obtain ⟨e, he, hq⟩ := hT.at_ m0 m1
    have ok := hok _ (List.mem_of_getElem? (getD_at m0 m1))
    have ok1 := ok.1
    have ok2 := ok.2.1
    have ok3 := ok.2.2
    obtain ⟨w, hw⟩ : ∃ w, w = ts.getD m.toNat (0, 0) := ⟨_, rfl⟩
    rw [← hw] at ok1 ok2 ok3 hq
    have hxG := kG.at_ _ _ h1 (fun _ z => nomatch z) (fun z => z)
    refine ⟨_, rfl, x, _, dx, _, _, rfl, hxG, CT.c_Match, CT.n_Match_net, mtc_net, t, _, 1, _, rfl, rfl, sqT_of (kG.tup ht), atI_nat (j := 1) rfl, _, rfl, u, _, m, _, rfl, rfl, sqT_of (kG.tup hu), he, ?_⟩
    refine ⟨e, _, rfl, sqT_of (kG.tup hq), rfl, _, _, rfl, _, [], rfl, rfl, ?_⟩
    refine ⟨_, rfl, _, rfl, _, rfl, l, ls, n, _, d, w.1, w.2, rfl, gl, U, ok1, Int.lt_trans ok2 ok3, Int.le_trans ok1 (Int.le_of_lt ok2), ok3, fun ls' d' U' => ?_⟩
    by_cases hj : jn ts (trN ws g) (tk ts m).1 (tk ts m).2
    · have hj' : foldR (fun x => x) (pick ts (trN ws g)) w.1 = foldR (fun x => x) (pick ts (trN ws g)) w.2 := by rw [hw]; exact hj
      rw [decide_eq_true hj']
      refine ⟨_, rfl, iteF ?_⟩
      have er : rstep (foldR (fun x => x) (pick ts (trN ws g))) w = foldR (fun x => x) (pick ts (trN ws g)) := by
        funext z
        unfold rstep
        split
        · rename_i h
          rw [h, hj']
        · rfl
      rw [show (w.1, w.2) = w from rfl, er] at U'
      refine ⟨_, _, _, ls', d', rfl, kG.over nl, kx.trans (Ke.put gl fun _ z => nomatch z), upd_same, U', fun k hk => ?_⟩
      rw [take_next hm0] at hk
      rcases List.mem_append.mp hk with hk | hk
      · exact hall k hk
      · rw [List.mem_singleton.mp hk]
        exact hj
    · have hj' : ¬ foldR (fun x => x) (pick ts (trN ws g)) w.1 = foldR (fun x => x) (pick ts (trN ws g)) w.2 := by rw [hw]; exact hj
      rw [decide_eq_false hj']
      refine ⟨_, rfl, iteT ?_⟩
      have hbr : brF ts ws g = some m := by
        refine List.find?_eq_some_iff_append.mpr ⟨by rw [decide_eq_false hj]; rfl, (numsFrom (1 - g) 0 ws).take i, (numsFrom (1 - g) 0 ws).drop (i + 1), ?_, fun k hk => by rw [decide_eq_true (hall k hk)]; rfl⟩
        have il := (List.getElem?_eq_some_iff.mp hm0).1
        have e := List.take_append_drop i (numsFrom (1 - g) 0 ws)
        rw [List.drop_eq_getElem_cons il] at e
        rw [List.getElem?_eq_getElem il] at hm0
        rw [← Option.some.inj hm0]
        exact e.symm
      exact ⟨_, rfl, q _ m (kG.over nl) hbr hmm hj⟩
  · obtain ⟨_, _, _, _, _, _, _, _, _, _, hall⟩ := hG
    rw [List.length_map, List.take_length] at hall
    obtain ⟨b, hb, hnb⟩ := hex
    exact absurd (hall b hb) hnb
theorem ok_Match_cut {P : Program} {w : World} {K : PySem.W.Frag} {mg : Str → Option Value} {base : Heap} {tb : List Addr} {f : Addr} {fd : FuncData} {f_is_number : Addr} {fd_is_number : FuncData} {f_Match_bridge_for : Addr} {fd_Match_bridge_for : FuncData} (T : Blt mg) (D_Match_cut : DefAtM K (He.ga K "Match") "cut" "Match.cut" s_Match_cut ["self", "tie"] f fd) (CT : Ktx K mg) (D_is_number : DefAt K mg "is_number" s_is_number ["thing", "least", "most"] f_is_number fd_is_number) (G_is_number : FnOk P w K mg base CX0 1 f_is_number fd_is_number ["thing", "least", "most"] (sp_is_number K tb)) (D_Match_bridge_for : DefAtM K (He.ga K "Match") "bridge_for" "Match.bridge_for" s_Match_bridge_for ["self", "place"] f_Match_bridge_for fd_Match_bridge_for) (G_Match_bridge_for : FnOk P w K mg base CX0 8 f_Match_bridge_for fd_Match_bridge_for ["self", "place"] (sp_Match_bridge_for K tb)) :
    FnOk P w K mg base CX0 9 f fd ["self", "tie"] (sp_Match_cut K tb) := by
  refine D_Match_cut.ok sc_Match_cut (fun vs H Q E h => by
    obtain ⟨x, lp, n, ts, ws, t, v, rfl, hM, hO, hv, hv2, hv3, hT0, q⟩ := h
    all_goals rfl) fun A outer s H vs Q E hr h => ?_
  obtain ⟨x, lp, n, ts, ws, t, v, rfl, hM, hO, hv, hv2, hv3, hT0, q⟩ := h
  refine ⟨_, pss_cons (ps_if (PW.pt (pw_or (pt_not (pt_val (pe_call G_is_number (hr.mono (by decide)) (by rfl) D_is_number.g D_is_number.F.kp D_is_number.b .nil pass0 (pa_cons (pv 1) (pa_cons (pe_int) (pa_cons (pe_op op_sub (pe_callB (lenK (K := K)) (by rfl) T.b_len PySem.boot_len (pa_cons (pe_fld (pv 0) rfl) pa_nil)) (pe_int)) pa_nil)))))) (pw_or1 (pt_cmpR (in_seqK (K := K)) (pe_ix (ix_listK (K := K)) (pe_fld (pv 0) rfl) (pv 1) (fun _ _ => rfl)) (pe_tup (pa_cons (pe_glob (v := .int 2) (by rfl) T.c_KEPT.choose_spec ⟨_, rfl⟩) (pa_cons (pe_glob (v := .int 3) (by rfl) T.c_CUT.choose_spec ⟨_, rfl⟩) pa_nil))) (by rfl)))))
     (pss_one (ps_never))
     (pss_nil))
     (pss_cons (ps_set (i := 2) sc_Match_cut.nd rfl (.inl rfl) (pe_ix (ix_listK (K := K)) (pe_fld (pv 0) rfl) (pv 1) (fun _ _ => rfl)))
     (pss_cons (ps_asg (pe_glob (v := .int 3) (by rfl) T.c_CUT.choose_spec ⟨_, rfl⟩) (pg_sub (pe_fld (pv 0) rfl) (pv 1) set_list))
     (pss_cons (ps_if (pt_cmpR op_isN (pv 2) (pe_non) (nomark _))
     (pss_one (ps_ret (pe_non)))
     (pss_nil))
     (pss_cons (ps_set (i := 3) sc_Match_cut.nd rfl (.inl rfl) (pe_meth (pv 0) CT.c_Match D_Match_bridge_for.me G_Match_bridge_for (hr.mono (by decide)) D_Match_bridge_for.b .nil pass0 (pa_cons (pv 2) pa_nil)))
     (pss_cons (ps_asg (pe_glob (v := .int 2) (by rfl) T.c_KEPT.choose_spec ⟨_, rfl⟩) (pg_sub (pe_fld (pv 0) rfl) (pv 3) set_list))
     (pss_one (ps_ret (pv 3)))))))), ?_⟩
  have LB := line_big
  obtain ⟨dx, nv, h1, h2⟩ := hM.at_
  have hwl := hM.wl
  have hln := hM.len
  have tl := (List.getElem?_eq_some_iff.mp hv).1
  refine ⟨_, rfl, _, rfl, x, _, dx, _, _, rfl, h1, CT.c_Match, CT.n_Match_places, mtc_places, lp, _, rfl, .inl (sqL_of hM.pl), _, _, rfl, rfl, ?_⟩
  have hnum : isNum (.int (t : Int)) 0 ((ws.length : Int) - 1) = true := by
    unfold isNum
    simp
    omega
  obtain ⟨nm, htn⟩ := ty_ints (H := H) [(t : Int)] (.int (t : Int)) List.mem_cons_self
  refine ⟨.int (t : Int), 0, _, nm, rfl, htn, ?_⟩
  rw [hnum]
  refine ⟨_, rfl, ?_⟩
  refine iteF ?_
  have hvo := hM.isO v (List.mem_of_getElem? hv)
  have hfl : flatV v = true := by
    rcases hvo with z | ⟨g, z⟩ <;> rw [z] <;> rfl
  have hin : inV v [.int 2, .int 3] = false := by
    rcases hvo with z | ⟨g, z⟩
    · rw [z]; rfl
    · rw [z]
      have a2 : g ≠ 2 := fun e => hv2 (by rw [z, e])
      have a3 : g ≠ 3 := fun e => hv3 (by rw [z, e])
      simp [inV, eqV]
      omega
  refine ⟨_, rfl, x, _, dx, _, _, rfl, h1, CT.c_Match, CT.n_Match_places, mtc_places, _, rfl, lp, _, _, v, rfl, rfl, sqL_of hM.pl, atI_nat hv, ?_⟩
  refine ⟨by show 2 ≤ sizeLine; decide, fun c nc => ?_⟩
  refine ⟨c, _, rfl, .inr (sqT_of upd_same), hfl, rfl, ?_⟩
  refine ⟨_, rfl, ?_⟩
  show if (inV v [.int 2, .int 3]) = true then _ else _
  rw [hin]
  refine iteF ?_
  have k1 := Ke.new (S := fun _ => False) (o := .tup [.int 2, .int 3]) nc
  have M1 := hM.ke k1
  generalize upd H c _ = H1 at *
  obtain ⟨dx1, nv1, g1, g2⟩ := M1.at_
  refine ⟨_, rfl, x, _, dx1, _, _, rfl, g1, CT.c_Match, CT.n_Match_places, mtc_places, _, rfl, lp, _, _, v, rfl, rfl, sqL_of M1.pl, atI_nat hv, ?_⟩
  refine ⟨_, rfl, x, _, dx1, _, _, rfl, g1, CT.c_Match, CT.n_Match_places, mtc_places, _, rfl, ?_⟩
  refine ⟨lp, ws, _, t, rfl, rfl, M1.pl, ix_nat tl, ?_⟩
  have M2 := M1.put (us := ws.set t (.int 3)) List.length_set (isO_set hM.isO)
  have k2 := (Ke.to (S := fun b => b = lp) k1).trans (Ke.put (o := .lst (ws.set t (.int 3))) M1.pl fun _ z => nomatch z)
  have tk2 := hT0.kx k2
  generalize upd H1 lp _ = H2 at *
  refine ⟨_, rfl, rfl, _, rfl, iteB (fun hb => ?_) (fun hb => ?_)⟩
  · have hb : v = .non := of_decide_eq_true hb
    subst hb
    exact q _ _ _ k2 M2 (hO.cutN hv) ⟨_, hv, hv2, hv3, .inl ⟨rfl, rfl, rfl⟩⟩
  have hb : ¬ v = .non := of_decide_eq_false hb
  obtain ⟨g, rfl⟩ : ∃ g, v = .int g := hvo.resolve_left hb
  have hg : 0 ≤ g ∧ g ≤ 1 := by
    have a2 : g ≠ 2 := fun e => hv2 (by rw [e])
    have a3 : g ≠ 3 := fun e => hv3 (by rw [e])
    rcases hO.vals _ (List.mem_of_getElem? hv) with z | ⟨g', z, z0, z1⟩
    · cases z
    · cases z
      omega
  have hbr := hO.bridge hM.n0 hM.ok hM.wl hg.1 hg.2 hv
  obtain ⟨dx2, nv2, e1, e2⟩ := M2.at_
  refine ⟨_, rfl, x, dx2, _, rfl, e1, mtc_bridge, _, rfl, x, lp, n, ts, _, g, rfl, M2, hg.1, hg.2, hbr, tk2, fun H3 b k3 hbf hb3 hj => ?_⟩
  have M3 := M2.ke k3
  obtain ⟨dx3, nv3, d1, d2⟩ := M3.at_
  obtain ⟨b0, b1⟩ := nums_iff.mp hb3
  obtain ⟨bn, rfl⟩ := Int.eq_ofNat_of_zero_le b0
  rw [Int.toNat_natCast] at b1
  have bl := (List.getElem?_eq_some_iff.mp b1).1
  refine ⟨_, rfl, x, _, dx3, _, _, rfl, d1, CT.c_Match, CT.n_Match_places, mtc_places, _, rfl, lp, _, _, bn, rfl, rfl, M3.pl, ix_nat bl, ?_⟩
  have M4 := M3.put (us := (ws.set t (.int 3)).set bn (.int 2)) List.length_set (isO_set M3.isO)
  have k4 := (k2.trans (Ke.to k3)).trans (Ke.put (o := .lst ((ws.set t (.int 3)).set bn (.int 2))) M3.pl fun _ z => nomatch z)
  exact ⟨_, rfl, q _ _ _ k4 M4 (hO.keep hg.1 hg.2 hv hb3 hj) ⟨_, hv, hv2, hv3, .inr ⟨bn, g, rfl, rfl, hbf, rfl, b1, hg.1, hg.2⟩⟩⟩
theorem ok__law_is_second {P : Program} {w : World} {K : PySem.W.Frag} {mg : Str → Option Value} {base : Heap} {tb : List Addr} {f : Addr} {fd : FuncData} {f__law_next : Addr} {fd__law_next : FuncData} {f_Match_state : Addr} {fd_Match_state : FuncData} {f_Match_cuts : Addr} {fd_Match_cuts : FuncData} {f__law_is_stepped : Addr} {fd__law_is_stepped : FuncData} {f_Match_cut : Addr} {fd_Match_cut : FuncData} (T : Blt mg) (D__law_is_second : DefAt K mg "_law_is_second" s_law_is_second ["_law_deck_here", "_law_web", "_law_second"] f fd) (CT : Ktx K mg) (D__law_next : DefAt K mg "_law_next" s_law_next ["_law_deck_here"] f__law_next fd__law_next) (G__law_next : FnOk P w K mg base CX0 1 f__law_next fd__law_next ["_law_deck_here"] (sp__law_next K tb)) (D_Match_state : DefAtM K (He.ga K "Match") "state" "Match.state" s_Match_state ["self"] f_Match_state fd_Match_state) (G_Match_state : FnOk P w K mg base CX0 8 f_Match_state fd_Match_state ["self"] (sp_Match_state K tb)) (D_Match_cuts : DefAtM K (He.ga K "Match") "cuts" "Match.cuts" s_Match_cuts ["self"] f_Match_cuts fd_Match_cuts) (G_Match_cuts : FnOk P w K mg base CX0 8 f_Match_cuts fd_Match_cuts ["self"] (sp_Match_cuts K tb)) (D__law_is_stepped : DefAt K mg "_law_is_stepped" s_law_is_stepped ["_law_web", "_law_match", "_law_ahead", "_law_tie_here", "_law_told", "_law_cuts"] f__law_is_stepped fd__law_is_stepped) (G__law_is_stepped : FnOk P w K mg base CX0 9 f__law_is_stepped fd__law_is_stepped ["_law_web", "_law_match", "_law_ahead", "_law_tie_here", "_law_told", "_law_cuts"] (sp__law_is_stepped K tb)) (D_Match_cut : DefAtM K (He.ga K "Match") "cut" "Match.cut" s_Match_cut ["self", "tie"] f_Match_cut fd_Match_cut) (G_Match_cut : FnOk P w K mg base CX0 9 f_Match_cut fd_Match_cut ["self", "tie"] (sp_Match_cut K tb)) :
    FnOk P w K mg base CX0 10 f fd ["_law_deck_here", "_law_web", "_law_second"] (sp__law_is_second K tb) := by
  refine D__law_is_second.ok sc__law_is_second (fun vs H Q E h => by
    obtain ⟨p, v, x, lp, n, ts, ws, rfl, hd, hplp, W, hpos, hM, hO, hT0, q⟩ := h
    all_goals rfl) fun A outer s H vs Q E hr h => ?_
  obtain ⟨p, v, x, lp, n, ts, ws, rfl, hd, hplp, W, hpos, hM, hO, hT0, q⟩ := h
  refine ⟨_, pss_cons (ps_set (i := 3) sc__law_is_second.nd rfl (.inl rfl) (pe_op op_mod (pe_call G__law_next (hr.mono (by decide)) (by rfl) D__law_next.g D__law_next.F.kp D__law_next.b .nil pass0 (pa_cons (pv 0) pa_nil)) (pe_callB (lenK (K := K)) (by rfl) T.b_len PySem.boot_len (pa_cons (pe_ix (ix_tupK (K := K)) (pv 1) (pe_int) (fun _ _ => rfl)) pa_nil))))
     (pss_cons (ps_set (i := 4) sc__law_is_second.nd rfl (.inl rfl) (pe_meth0 (pv 2) CT.c_Match D_Match_cuts.me G_Match_cuts (hr.mono (by decide)) D_Match_cuts.b .nil pass0))
     (pss_cons (ps_set (i := 5) sc__law_is_second.nd rfl (.inl rfl) (pe_meth0 (pv 2) CT.c_Match D_Match_state.me G_Match_state (hr.mono (by decide)) D_Match_state.b .nil pass0))
     (pss_cons (ps_if (PW.pt (pw_or (pt_cmpR (in_seqK (K := K)) (pv 3) (pv 4) (by rfl)) (pw_or1 (pt_cmpR (in_seqK (K := K)) (pv 3) (pe_ix (ix_tupK (K := K)) (pv 5) (pe_int) (fun _ _ => rfl)) (by rfl)))))
     (pss_one (ps_ret (pe_bl)))
     (pss_nil))
     (pss_cons (ps_set (i := 6) sc__law_is_second.nd rfl (.inl rfl) (pe_meth (pv 2) CT.c_Match D_Match_cut.me G_Match_cut (hr.mono (by decide)) D_Match_cut.b .nil pass0 (pa_cons (pv 3) pa_nil)))
     (pss_one (ps_ret (pe_call G__law_is_stepped (hr.mono (by decide)) (by rfl) D__law_is_stepped.g D__law_is_stepped.F.kp D__law_is_stepped.b .nil pass0 (pa_cons (pv 1) (pa_cons (pv 2) (pa_cons (pv 5) (pa_cons (pv 3) (pa_cons (pv 6) (pa_cons (pe_callTy (tupleK (K := K)) (by rfl) T.b_tuple (by decide +kernel) (pa_cons (pe_callB cr_sortedTI (by rfl) T.b_sorted (by decide +kernel) (pa_cons (pe_op (catU (K := K)) (pv 4) (pe_tup (pa_cons (pv 3) pa_nil))) pa_nil)) pa_nil)) pa_nil))))))))))))), ?_⟩
  have LB := line_big
  obtain ⟨tw, wu, rs, rfl, htw, hwu, hT⟩ := id W
  have hrl := hT.length
  have hwl := hM.wl
  have hln := hM.len
  refine ⟨_, rfl, p, rfl, hd, fun r H1 r0 r1 k1 => ?_⟩
  have e1 := emod_bds r (n := (ts.length : Int)) (by omega)
  have M1 := hM.dk k1 hd hplp
  have htw1 := k1.tup hd htw
  have hwu1 := k1.tup hd hwu
  have W1 := W.dk k1 hd
  have T1 := hT0.dk k1
  have d1 := k1.d
  refine ⟨_, rfl, tw, _, 1, _, rfl, rfl, sqT_of htw1, atI_nat (j := 1) rfl, wu, _, rfl, .inr (sqT_of hwu1), ?_⟩
  rw [hrl]
  refine ⟨_, _, rfl, rfl, by omega, ?_⟩
  obtain ⟨t, et⟩ : ∃ t : Nat, r % (ts.length : Int) = (t : Int) := ⟨(r % (ts.length : Int)).toNat, by omega⟩
  dsimp -proj -iota only
  rw [et]
  have tl : t < ws.length := by omega
  clear et e1
  obtain ⟨dx1, nv1, g1, _⟩ := M1.at_
  refine ⟨_, rfl, x, dx1, _, rfl, g1, mtc_cuts, x, lp, n, ts, ws, rfl, M1, T1, fun H2 cu k2 ncu hcu => ?_⟩
  have M2 := M1.ke k2
  obtain ⟨dx2, nv2, g2, _⟩ := M2.at_
  have T2 := T1.kx k2
  refine ⟨_, rfl, x, dx2, _, rfl, g2, mtc_state, x, lp, n, ts, ws, rfl, M2, T2, fun H3 st ka oa pa k3 nst hst hka hoa hpa => ?_⟩
  have M3 := M2.ke k3
  have T3 := T2.kx k3
  have hcu3 := Ke.tup k3 hcu
  have k13 : Kx (fun b => b = p ∨ b = lp) H H3 := (k1.k.mono fun _ z => .inl z).trans (Ke.to (k2.trans k3))
  have d3 := d1.ke (k2.trans k3)
  have W3 := W1.ke (k2.trans k3)
  refine ⟨_, rfl, _, rfl, cu, _, rfl, .inr (sqT_of hcu3), rfl, List.all_eq_true.mpr (fun z hz => by obtain ⟨_, _, rfl⟩ := List.mem_map.mp hz; rfl), _, rfl, ?_⟩
  rw [if_neg Bool.false_ne_true, inV_int]
  by_cases c3 : (t : Int) ∈ numsFrom 3 0 ws
  · rw [decide_eq_true c3]
    refine (if_pos rfl).mpr ?_
    exact q _ ws k13 d3 M3 hO
  rw [decide_eq_false c3]
  refine (if_neg Bool.false_ne_true).mpr ?_
  refine ⟨_, rfl, _, rfl, st, _, 0, _, rfl, rfl, sqT_of hst, atI_nat (j := 0) rfl, ka, _, rfl, .inr (sqT_of hka), rfl, List.all_eq_true.mpr (fun z hz => by obtain ⟨_, _, rfl⟩ := List.mem_map.mp hz; rfl), _, rfl, ?_⟩
  rw [if_neg Bool.false_ne_true, inV_int]
  by_cases c2 : (t : Int) ∈ numsFrom 2 0 ws
  · rw [decide_eq_true c2]
    refine iteT ?_
    exact q _ ws k13 d3 M3 hO
  rw [decide_eq_false c2]
  refine iteF ?_
  have hut := List.getElem?_eq_getElem tl
  generalize ws[t] = vt at hut
  have v2 : vt ≠ .int 2 := fun e => c2 (nums_iff.mpr ⟨by omega, by rw [Int.toNat_natCast, hut, e]⟩)
  have v3 : vt ≠ .int 3 := fun e => c3 (nums_iff.mpr ⟨by omega, by rw [Int.toNat_natCast, hut, e]⟩)
  obtain ⟨dx3, nv3, g3, _⟩ := M3.at_
  have slp : ∀ {G : Hp} {b : Addr} {xs : List V}, Mtc K G x lp n ts ws → G b = some (.tup xs) → ¬ b = lp := fun m z e => by rw [e, m.pl] at z; cases z
  refine ⟨_, rfl, x, dx3, _, rfl, g3, mtc_cut, _, rfl, x, lp, n, ts, ws, t, vt, rfl, M3, hO, hut, v2, v3, T3, fun H4 y us k4 M4 hO4 hC => ?_⟩
  have hst4 := k4.tup hst (slp M3 hst)
  have hka4 := k4.tup hka (slp M3 hka)
  have hoa4 := k4.tup hoa (slp M3 hoa)
  have hpa4 := k4.tup hpa (slp M3 hpa)
  have hcu4 := k4.tup hcu3 (slp M3 hcu3)
  have W4 : Web H4 (.ref tw) n ts := k4.web (fun b xs z => slp M3 z) W3
  have T4 := T3.kx k4
  have hnl3 := nums_length 3 0 ws
  have d4 : Deck H4 p := by
    obtain ⟨ds, e, g⟩ := d3
    exact ⟨ds, k4.at_ _ _ e (fun _ z => nomatch z) hplp, g⟩
  have k14 := k13.trans (k4.mono fun _ z => .inr z)
  refine ⟨_, rfl, _, rfl, _, rfl, _, rfl, _, rfl, _, rfl, _, rfl, by show 1 ≤ sizeLine; decide, fun z nz => ?_⟩
  have kz := Ke.new (S := fun _ => False) (o := .tup [.int (t : Int)]) nz
  have hz : (upd H4 z (.tup [.int (t : Int)])) z = some (.tup ([(t : Int)].map V.int)) := upd_same
  have hcu5 := Ke.tup kz hcu4
  generalize upd H4 z _ = H5 at *
  refine ⟨cu, z, _, _, rfl, rfl, hcu5, hz, by rw [List.length_map, List.length_map]; show (numsFrom 3 0 ws).length + 1 ≤ _; omega, fun c2 H6 k6 h6 => ?_⟩
  rw [← List.map_append] at h6
  refine ⟨c2, _, rfl, sqT_of h6, fun ms o hp hs no => ?_⟩
  have hms := hC.sort3 hp hs
  rw [hms]
  have k7 := kz.trans (k6.trans (Ke.new (o := .lst ((numsFrom 3 0 us).map V.int)) no))
  have go : (upd H6 o (.lst ((numsFrom 3 0 us).map V.int))) o = some (.lst ((numsFrom 3 0 us).map V.int)) := upd_same
  generalize upd H6 o _ = H7 at *
  refine ⟨o, _, rfl, .inl ⟨sqL_of go, fun w nw => ?_⟩⟩
  have k8 := k7.trans (Ke.new (o := .tup ((numsFrom 3 0 us).map V.int)) nw)
  have gw : (upd H7 w (.tup ((numsFrom 3 0 us).map V.int))) w = some (.tup ((numsFrom 3 0 us).map V.int)) := upd_same
  generalize upd H7 w _ = H8 at *
  have M8 := M4.ke k8
  refine ⟨.ref tw, x, lp, n, ts, ws, us, st, ka, oa, pa, w, t, y, rfl, W4.ke k8, M8, hO4, hO, hC, Ke.tup k8 hst4, Ke.tup k8 hka4, Ke.tup k8 hoa4, Ke.tup k8 hpa4, gw, T4.kx k8, fun H9 k9 => ?_⟩
  exact q _ us ((k14.trans (Ke.to k8)).trans (Ke.to k9)) ((d4.ke k8).ke k9) (M8.ke k9) hO4
theorem ok_Match___init__ {P : Program} {w : World} {K : PySem.W.Frag} {mg : Str → Option Value} {base : Heap} {tb : List Addr} {f : Addr} {fd : FuncData} (T : Blt mg) (D_Match___init__ : DefAtI K (He.ga K "Match") "Match.__init__" s_Match___init__ ["self", "web", "trees"] f fd) (CT : Ktx K mg) :
    FnOk P w K mg base CX0 1 f fd ["self", "web", "trees"] (sp_Match___init__ K tb) := by
  refine D_Match___init__.ok sc_Match___init__ (fun vs H Q E h => by
    obtain ⟨x, dx, n, ts, v, u, ws, rfl, hx, W, hu, hok, hwl, hO, hn0, hn1, hlen, q⟩ := h
    all_goals rfl) fun A outer s H vs Q E hr h => ?_
  obtain ⟨x, dx, n, ts, v, u, ws, rfl, hx, W, hu, hok, hwl, hO, hn0, hn1, hlen, q⟩ := h
  refine ⟨_, pss_cons (ps_fld (pv 0) (pv 1) rfl)
     (pss_one (ps_fld (pv 0) (pe_callTy (listK (K := K)) (by rfl) T.b_list (by decide +kernel) (pa_cons (pv 2) pa_nil)) rfl)), ?_⟩
  have LB := line_big
  refine ⟨_, rfl, _, rfl, x, _, dx, _, rfl, hx, CT.c_Match, CT.n_Match_net, by show 0 < 1000; decide, ?_⟩
  have k1 : Kx (fun b => b = x) H (upd H x (.ins (He.ga K "Match") dx (putF "net" v []))) := Ke.put hx fun _ z => nomatch z
  have hs : ∀ b xs, H b = some (.tup xs) → ¬ b = x := fun b xs z e => by rw [e, hx] at z; cases z
  have W1 : Web (upd H x (.ins (He.ga K "Match") dx (putF "net" v []))) v n ts := k1.web hs W
  have hx1 : (upd H x (.ins (He.ga K "Match") dx (putF "net" v []))) x = some (.ins (He.ga K "Match") dx (putF "net" v [])) := upd_same
  have hu1 : (upd H x (.ins (He.ga K "Match") dx (putF "net" v []))) u = some (.tup ws) := k1.tup hu (hs _ _ hu)
  generalize upd H x _ = H1 at *
  refine ⟨_, rfl, u, ws, rfl, .inr (sqT_of hu1), fun l nl => ?_⟩
  have xl : x ≠ l := ne_of_none hx1 nl
  have k2 := k1.trans (Ke.to (S := fun b => b = x) (Ke.new (o := .lst ws) nl))
  have W2 := W1.ke (Ke.new (o := .lst ws) nl)
  have hx2 : (upd H1 l (.lst ws)) x = some (.ins (He.ga K "Match") dx (putF "net" v [])) := by rw [upd_ne xl]; exact hx1
  have hl2 : (upd H1 l (.lst ws)) l = some (.lst ws) := upd_same
  generalize upd H1 l _ = H2 at *
  have l1 := length_putF "net" v []
  rw [List.length_nil] at l1
  refine ⟨_, rfl, x, _, dx, _, rfl, hx2, CT.c_Match, CT.n_Match_places, by omega, ?_⟩
  rw [mtc_new]
  have k3 : Kx (fun b => b = x) H2 (upd H2 x (.ins (He.ga K "Match") dx (mtcF v (.ref l)))) := Ke.put hx2 fun _ z => nomatch z
  have hs2 : ∀ b xs, H2 b = some (.tup xs) → ¬ b = x := fun b xs z e => by rw [e, hx2] at z; cases z
  exact q _ l (k2.trans k3) (k1.dom _ nl) ⟨⟨dx, v, upd_same, k3.web hs2 W2⟩, by rw [upd_ne (Ne.symm xl)]; exact hl2, hok, hwl, hO, hn0, hn1, hlen⟩
theorem ok_law {P : Program} {w : World} {K : PySem.W.Frag} {mg : Str → Option Value} {base : Heap} {tb : List Addr} {f : Addr} {fd : FuncData} {f__law_deck : Addr} {fd__law_deck : FuncData} {f__law_next : Addr} {fd__law_next : FuncData} {f__law_two_trees : Addr} {fd__law_two_trees : FuncData} {f__law_is_state : Addr} {fd__law_is_state : FuncData} {f__law_is_true : Addr} {fd__law_is_true : FuncData} {f__law_order : Addr} {fd__law_order : FuncData} {f_Match_state : Addr} {fd_Match_state : FuncData} {f_Match_cuts : Addr} {fd_Match_cuts : FuncData} {f_Match_joined : Addr} {fd_Match_joined : FuncData} {f__law_is_stepped : Addr} {fd__law_is_stepped : FuncData} {f_Match_cut : Addr} {fd_Match_cut : FuncData} {f__law_is_second : Addr} {fd__law_is_second : FuncData} {f_Match___init__ : Addr} {fd_Match___init__ : FuncData} (T : Blt mg) (D_law : DefAt K mg "law" s_law ["_law_script"] f fd) (CT : Ktx K mg) (D__law_deck : DefAt K mg "_law_deck" s_law_deck ["_law_script", "_law_many"] f__law_deck fd__law_deck) (G__law_deck : FnOk P w K mg base CX0 2 f__law_deck fd__law_deck ["_law_script", "_law_many"] (sp__law_deck K tb)) (D__law_next : DefAt K mg "_law_next" s_law_next ["_law_deck_here"] f__law_next fd__law_next) (G__law_next : FnOk P w K mg base CX0 1 f__law_next fd__law_next ["_law_deck_here"] (sp__law_next K tb)) (D__law_two_trees : DefAt K mg "_law_two_trees" s_law_two_trees ["_law_deck_here", "_law_points", "_law_more"] f__law_two_trees fd__law_two_trees) (G__law_two_trees : FnOk P w K mg base CX0 3 f__law_two_trees fd__law_two_trees ["_law_deck_here", "_law_points", "_law_more"] (sp__law_two_trees K tb)) (D__law_is_state : DefAt K mg "_law_is_state" s_law_is_state ["_law_web", "_law_cuts", "_law_thing"] f__law_is_state fd__law_is_state) (G__law_is_state : FnOk P w K mg base CX0 4 f__law_is_state fd__law_is_state ["_law_web", "_law_cuts", "_law_thing"] (sp__law_is_state K tb)) (D__law_is_true : DefAt K mg "_law_is_true" s_law_is_true ["_law_found", "_law_due"] f__law_is_true fd__law_is_true) (G__law_is_true : FnOk P w K mg base CX0 1 f__law_is_true fd__law_is_true ["_law_found", "_law_due"] (sp__law_is_true K tb)) (D__law_order : DefAt K mg "_law_order" s_law_order ["_law_deck_here", "_law_web", "_law_trees"] f__law_order fd__law_order) (G__law_order : FnOk P w K mg base CX0 2 f__law_order fd__law_order ["_law_deck_here", "_law_web", "_law_trees"] (sp__law_order K tb)) (D_Match_state : DefAtM K (He.ga K "Match") "state" "Match.state" s_Match_state ["self"] f_Match_state fd_Match_state) (G_Match_state : FnOk P w K mg base CX0 8 f_Match_state fd_Match_state ["self"] (sp_Match_state K tb)) (D_Match_cuts : DefAtM K (He.ga K "Match") "cuts" "Match.cuts" s_Match_cuts ["self"] f_Match_cuts fd_Match_cuts) (G_Match_cuts : FnOk P w K mg base CX0 8 f_Match_cuts fd_Match_cuts ["self"] (sp_Match_cuts K tb)) (D_Match_joined : DefAtM K (He.ga K "Match") "joined" "Match.joined" s_Match_joined ["self"] f_Match_joined fd_Match_joined) (G_Match_joined : FnOk P w K mg base CX0 8 f_Match_joined fd_Match_joined ["self"] (sp_Match_joined K tb)) (D__law_is_stepped : DefAt K mg "_law_is_stepped" s_law_is_stepped ["_law_web", "_law_match", "_law_ahead", "_law_tie_here", "_law_told", "_law_cuts"] f__law_is_stepped fd__law_is_stepped) (G__law_is_stepped : FnOk P w K mg base CX0 9 f__law_is_stepped fd__law_is_stepped ["_law_web", "_law_match", "_law_ahead", "_law_tie_here", "_law_told", "_law_cuts"] (sp__law_is_stepped K tb)) (D_Match_cut : DefAtM K (He.ga K "Match") "cut" "Match.cut" s_Match_cut ["self", "tie"] f_Match_cut fd_Match_cut) (G_Match_cut : FnOk P w K mg base CX0 9 f_Match_cut fd_Match_cut ["self", "tie"] (sp_Match_cut K tb)) (D__law_is_second : DefAt K mg "_law_is_second" s_law_is_second ["_law_deck_here", "_law_web", "_law_second"] f__law_is_second fd__law_is_second) (G__law_is_second : FnOk P w K mg base CX0 10 f__law_is_second fd__law_is_second ["_law_deck_here", "_law_web", "_law_second"] (sp__law_is_second K tb)) (D_Match___init__ : DefAtI K (He.ga K "Match") "Match.__init__" s_Match___init__ ["self", "web", "trees"] f_Match___init__ fd_Match___init__) (G_Match___init__ : FnOk P w K mg base CX0 1 f_Match___init__ fd_Match___init__ ["self", "web", "trees"] (sp_Match___init__ K tb)) :
    FnOk P w K mg base CX0 11 f fd ["_law_script"] (sp_law K tb) := by
  refine D_law.ok sc_law (fun vs H Q E h => by
    obtain ⟨a, ns, rfl, hS, hlen, hTb, q⟩ := h
    all_goals rfl) fun A outer s H vs Q E hr h => ?_
  obtain ⟨a, ns, rfl, hS, hlen, hTb, q⟩ := h
  refine ⟨_, pss_cons (ps_set (i := 1) sc_law.nd rfl (.inl rfl) (pe_call G__law_deck (hr.mono (by decide)) (by rfl) D__law_deck.g D__law_deck.F.kp D__law_deck.b .nil pass0 (pa_cons (pv 0) (pa_cons (pe_int) pa_nil))))
     (pss_cons (ps_for PassesOwn.never rfl (pi_range1 (by rfl) T.b_range (pa_cons (pe_int) pa_nil)) (pg_name (i := 2) sc_law.nd rfl (.inl rfl))
     (pss_cons (ps_asg (pe_call G__law_two_trees (hr.mono (by decide)) (by rfl) D__law_two_trees.g D__law_two_trees.F.kp D__law_two_trees.b .nil pass0 (pa_cons (pv 1) (pa_cons (pe_op op_add (pe_int) (pe_op op_mod (pe_call G__law_next (hr.mono (by decide)) (by rfl) D__law_next.g D__law_next.F.kp D__law_next.b .nil pass0 (pa_cons (pv 1) pa_nil)) (pe_ix (ix_listK (K := K)) (pe_lst (pa_cons (pe_int) (pa_cons (pe_int) pa_nil))) (pe_callTy call_int1 (by rfl) T.b_int (by decide +kernel) (pa_cons (pe_cmpR op_eq (pe_op op_mod (pe_call G__law_next (hr.mono (by decide)) (by rfl) D__law_next.g D__law_next.F.kp D__law_next.b .nil pass0 (pa_cons (pv 1) pa_nil)) (pe_int)) (pe_int) (nomark _)) pa_nil)) (fun _ _ => rfl)))) (pa_cons (pe_int) pa_nil)))) (tgtK (K := K) (n := 2) (pgs_cons (pg_name (i := 3) sc_law.nd rfl (.inl rfl)) (pgs_cons (pg_name (i := 4) sc_law.nd rfl (.inl rfl)) pgs_nil))))
     (pss_cons (ps_set (i := 5) sc_law.nd rfl (.inl rfl) (pe_make D_Match___init__.mak G_Match___init__ (hr.mono (by decide)) (by rfl) CT.g_Match D_Match___init__.b .nil pass0 (pa_cons (pv 3) (pa_cons (pv 4) pa_nil))))
     (pss_cons (ps_set (i := 7) sc_law.nd rfl (.inl rfl) (pe_make D_Match___init__.mak G_Match___init__ (hr.mono (by decide)) (by rfl) CT.g_Match D_Match___init__.b .nil pass0 (pa_cons (pv 3) (pa_cons (pe_callTy (tupleK (K := K)) (by rfl) T.b_tuple (by decide +kernel) (pa_cons (pe_lc (own := [("_law_own", 6)]) rfl sc_law.nd (pi_tup (pv 4)) (blkOk_by (own := [("_law_own", 6)]) (N := nm_law) (sc := defScope s_law) (by decide +kernel)) (fun _ _ _ _ _ => pg_name (i := 6) sc_law.nd rfl (.inl rfl)) (fun _ _ _ _ _ => pts_nil) (fun _ _ _ _ _ => pe_ix (ix_listK (K := K)) (pe_lst (pa_cons (pe_non) (pa_cons (pe_int) (pa_cons (pe_int) pa_nil)))) ((pe_bmK (K := K)) PySem.F.plainAttrs_list PySem.F.slot_list_index PySem.F.type_list_index (mt_indexK (K := K)) (pe_lst (pa_cons (pe_non) (pa_cons (pe_int) (pa_cons (pe_int) pa_nil)))) (pa_cons (pv 6) pa_nil)) (fun _ _ => rfl))) pa_nil)) pa_nil))))
     (pss_cons (ps_set (i := 8) sc_law.nd rfl (.inl rfl) (pe_tup pa_nil))
     (pss_cons (ps_set (i := 9) sc_law.nd rfl (.inl rfl) (pe_lst pa_nil))
     (pss_cons (ps_if (PW.pt (pw_or (pt_not (pt_val (pe_call G__law_is_true (hr.mono (by decide)) (by rfl) D__law_is_true.g D__law_is_true.F.kp D__law_is_true.b .nil pass0 (pa_cons (pe_meth0 (pv 5) CT.c_Match D_Match_joined.me G_Match_joined (hr.mono (by decide)) D_Match_joined.b .nil pass0) (pa_cons (pe_cmpR op_eq (pe_ix (ix_tupK (K := K)) (pv 3) (pe_int) (fun _ _ => rfl)) (pe_int) (nomark _)) pa_nil))))) (pw_or1 (pt_not (pt_val (pe_call G__law_is_state (hr.mono (by decide)) (by rfl) D__law_is_state.g D__law_is_state.F.kp D__law_is_state.b .nil pass0 (pa_cons (pv 3) (pa_cons (pv 8) (pa_cons (pe_meth0 (pv 5) CT.c_Match D_Match_state.me G_Match_state (hr.mono (by decide)) D_Match_state.b .nil pass0) pa_nil)))))))))
     (pss_one (ps_ret (pe_bl)))
     (pss_nil))
     (pss_cons (ps_for PassesOwn.never rfl (pi_list (pe_call G__law_order (hr.mono (by decide)) (by rfl) D__law_order.g D__law_order.F.kp D__law_order.b .nil pass0 (pa_cons (pv 1) (pa_cons (pv 3) (pa_cons (pv 4) pa_nil))))) (pg_name (i := 10) sc_law.nd rfl (.inl rfl))
     (pss_cons (ps_set (i := 11) sc_law.nd rfl (.inl rfl) (pe_meth0 (pv 5) CT.c_Match D_Match_state.me G_Match_state (hr.mono (by decide)) D_Match_state.b .nil pass0))
     (pss_one (ps_if (pt_cmpR (notIn_seqK (K := K)) (pv 10) (pe_ix (ix_tupK (K := K)) (pv 11) (pe_int) (fun _ _ => rfl)) (by rfl))
     (pss_cons (ps_set (i := 12) sc_law.nd rfl (.inl rfl) (pe_meth (pv 5) CT.c_Match D_Match_cut.me G_Match_cut (hr.mono (by decide)) D_Match_cut.b .nil pass0 (pa_cons (pv 10) pa_nil)))
     (pss_cons (ps_set (i := 8) sc_law.nd rfl (.inl rfl) (pe_callTy (tupleK (K := K)) (by rfl) T.b_tuple (by decide +kernel) (pa_cons (pe_callB cr_sortedTI (by rfl) T.b_sorted (by decide +kernel) (pa_cons (pe_op (catU (K := K)) (pv 8) (pe_tup (pa_cons (pv 10) pa_nil))) pa_nil)) pa_nil)))
     (pss_cons (ps_expr (pe_bm PySem.F.plainAttrs_list PySem.F.slot_list_append PySem.F.type_list_append mt_append (pv 9) (pa_cons (pe_tup (pa_cons (pv 10) (pa_cons (pv 12) pa_nil))) pa_nil)))
     (pss_cons (ps_if (pt_not (pt_val (pe_call G__law_is_stepped (hr.mono (by decide)) (by rfl) D__law_is_stepped.g D__law_is_stepped.F.kp D__law_is_stepped.b .nil pass0 (pa_cons (pv 3) (pa_cons (pv 5) (pa_cons (pv 11) (pa_cons (pv 10) (pa_cons (pv 12) (pa_cons (pv 8) pa_nil)))))))))
     (pss_one (ps_ret (pe_bl)))
     (pss_nil))
     (pss_cons (ps_set (i := 11) sc_law.nd rfl (.inl rfl) (pe_meth0 (pv 5) CT.c_Match D_Match_state.me G_Match_state (hr.mono (by decide)) D_Match_state.b .nil pass0))
     (pss_cons (ps_if (pt_not (pt_val (pe_call G__law_is_second (hr.mono (by decide)) (by rfl) D__law_is_second.g D__law_is_second.F.kp D__law_is_second.b .nil pass0 (pa_cons (pv 1) (pa_cons (pv 3) (pa_cons (pv 7) pa_nil))))))
     (pss_one (ps_ret (pe_bl)))
     (pss_nil))
     (pss_one (ps_if (PW.pt (pw_or (pt_cmpR (neDK (K := K) hr.units) (pe_meth0 (pv 5) CT.c_Match D_Match_state.me G_Match_state (hr.mono (by decide)) D_Match_state.b .nil pass0) (pv 11) (nomark _)) (pw_or1 (pt_cmpR (neDK (K := K) hr.units) (pe_meth0 (pv 5) CT.c_Match D_Match_cuts.me G_Match_cuts (hr.mono (by decide)) D_Match_cuts.b .nil pass0) (pv 8) (nomark _)))))
     (pss_one (ps_ret (pe_bl)))
     (pss_nil)))))))))
     (pss_nil)))))
     (pss_cons (ps_if (PW.pt (pw_or (pt_cmpR (neDK (K := K) hr.units) (pe_slice (sl_tupU (K := K)) (pe_meth0 (pv 5) CT.c_Match D_Match_state.me G_Match_state (hr.mono (by decide)) D_Match_state.b .nil pass0) (po_some (pe_int)) po_none) (pe_tup (pa_cons (pe_tup pa_nil) (pa_cons (pe_tup pa_nil) pa_nil))) (nomark _)) (pw_or1 (pt_cmpR op_notBl (pe_meth0 (pv 5) CT.c_Match D_Match_joined.me G_Match_joined (hr.mono (by decide)) D_Match_joined.b .nil pass0) (pe_bl) (nomark _)))))
     (pss_one (ps_ret (pe_bl)))
     (pss_nil))
     (pss_cons (ps_set (i := 13) sc_law.nd rfl (.inr rfl) (pe_make D_Match___init__.mak G_Match___init__ (hr.mono (by decide)) (by rfl) CT.g_Match D_Match___init__.b .nil pass0 (pa_cons (pv 3) (pa_cons (pv 4) pa_nil))))
     (pss_cons (ps_setLc (i := 15) (own := [("_law_tie_here", 10), ("_law_kept", 14)]) rfl sc_law.nd rfl rfl (sw_true rfl rfl rfl (by decide +kernel)) (pi_list (pv 9)) (blkOk_by (own := [("_law_tie_here", 10), ("_law_kept", 14)]) (N := nm_law) (sc := defScope s_law) (by decide +kernel)) (fun _ _ _ _ _ => tgtK (K := K) (n := 2) (pgs_cons (pg_name (i := 10) sc_law.nd rfl (.inl rfl)) (pgs_cons (pg_name (i := 14) sc_law.nd rfl (.inl rfl)) pgs_nil))) (fun _ _ _ _ _ => pts_nil) (fun _ _ _ _ _ => pe_meth (pv 13) CT.c_Match D_Match_cut.me G_Match_cut (hr.mono (by decide)) D_Match_cut.b .nil pass0 (pa_cons (pv 10) pa_nil)))
     (pss_one (ps_if (PW.pt (pw_or (pt_cmpR (neDK (K := K) hr.units) (pv 15) (pe_lc (own := [("_law_tie_here", 10), ("_law_kept", 14)]) rfl sc_law.nd (pi_list (pv 9)) (blkOk_by (own := [("_law_tie_here", 10), ("_law_kept", 14)]) (N := nm_law) (sc := defScope s_law) (by decide +kernel)) (fun _ _ _ _ _ => tgtK (K := K) (n := 2) (pgs_cons (pg_name (i := 10) sc_law.nd rfl (.inl rfl)) (pgs_cons (pg_name (i := 14) sc_law.nd rfl (.inl rfl)) pgs_nil))) (fun _ _ _ _ _ => pts_nil) (fun _ _ _ _ _ => pv 14)) (nomark _)) (pw_or1 (pt_cmpR (neDK (K := K) hr.units) (pe_meth0 (pv 13) CT.c_Match D_Match_state.me G_Match_state (hr.mono (by decide)) D_Match_state.b .nil pass0) (pe_meth0 (pv 5) CT.c_Match D_Match_state.me G_Match_state (hr.mono (by decide)) D_Match_state.b .nil pass0) (nomark _)))))
     (pss_one (ps_ret (pe_bl)))
     (pss_nil))))))))))))))
     (pss_one (ps_ret (pe_bl)))), ?_⟩
  have LB := line_big
  refine ⟨_, rfl, a, ns, 600, rfl, hS, hlen, by decide, by decide, fun p G0 np k0 hd => ?_⟩
  have hT0 : Tabs tb G0 := hTb.kx k0
  refine ⟨2, rfl, by decide, by decide, ?_⟩
  refine for_range (lo := 0) (n := 2) (fun i σ G => ∃ (y2 y3 y4 y5 y6 y7 y8 y9 y10 y11 y12 y13 y14 y15 : Option V), σ = [some (.ref a), some (.ref p), y2, y3, y4, y5, y6, y7, y8, y9, y10, y11, y12, y13, y14, y15] ∧ Dk p G0 G) ⟨_, _, _, _, _, _, _, _, _, _, _, _, _, _, rfl, Dk.refl hd⟩ (fun i σ G hi hG => ?_) (fun σ G hG => ?_)
  rotate_left
  · obtain ⟨_, _, _, _, _, _, _, _, _, _, _, _, _, _, rfl, _⟩ := hG
    exact q _
  obtain ⟨y2, y3, y4, y5, y6, y7, y8, y9, y10, y11, y12, y13, y14, y15, rfl, kG⟩ := hG
  refine ⟨_, rfl, _, rfl, p, rfl, kG.d, fun r1 H1 r10 r11 k1 => ?_⟩
  have K1 := kG.trans k1
  refine ⟨by show 2 ≤ sizeLine; decide, fun l nl => ?_⟩
  have hl : (upd H1 l (.lst [.int 12, .int 16])) l = some (.lst [.int 12, .int 16]) := upd_same
  have K2 := K1.new (o := .lst [.int 12, .int 16]) nl
  have nlp : l ≠ p := (K1.d.ne nl).symm
  generalize upd H1 l _ = H2 at *
  refine ⟨_, rfl, p, rfl, K2.d, fun r2 H3 r20 r21 k3 => ?_⟩
  have K3 := K2.trans k3
  have hl3 := k3.lst hl nlp
  refine ⟨_, _, rfl, rfl, by show (0 : Int) < 8; decide, rfl, .inr ⟨_, rfl, ?_⟩⟩
  obtain ⟨mm, hmm, hm0⟩ : ∃ mm : Int, atI [V.int 12, V.int 16] (if decide (V.int (r2 % 8) = V.int 3) = true then 1 else 0) = some (.int mm) ∧ (mm = 12 ∨ mm = 16) := by
    by_cases c : V.int (r2 % 8) = V.int 3
    · rw [decide_eq_true c]; exact ⟨16, rfl, .inr rfl⟩
    · rw [decide_eq_false c]; exact ⟨12, rfl, .inl rfl⟩
  refine ⟨l, _, _, _, rfl, rfl, sqL_of hl3, hmm, ?_⟩
  refine ⟨_, _, rfl, rfl, by omega, _, _, rfl, rfl, ?_⟩
  have er := emod_bds r1 (n := mm) (by omega)
  refine ⟨p, 1 + r1 % mm, 8, rfl, K3.d, by omega, by omega, by decide, by decide, fun H4 wt wv u ts ws k4 hwt W hlts hu hSt => ?_⟩
  obtain ⟨n, en⟩ : ∃ n : Int, n = 1 + r1 % mm := ⟨_, rfl⟩
  rw [← en] at W hSt hlts
  have hn0 : 1 ≤ n := by omega
  have hn1 : n ≤ 16 := by omega
  clear en er hmm hm0
  have K4 := K3.trans k4
  have hok := hSt.ok
  have hwl := hSt.lay.len
  have hwv := hSt.val
  refine ⟨wt, _, rfl, sqT_of hwt, rfl, _, _, rfl, _, [], rfl, rfl, ?_⟩
  obtain ⟨tw, wu, rs, etw, htw, hwu, hT⟩ := id W
  obtain rfl : tw = wv := (V.ref.inj etw).symm
  clear etw
  have hwO : ∀ z ∈ ws, IsO z := fun z hz => by
    rcases hwv z hz with e | e | e
    · exact .inl e
    · exact .inr ⟨_, e⟩
    · exact .inr ⟨_, e⟩
  have hMO : MatchOk n ts ws := by
    have := hSt.mt hn0 (o1 := 0) (o2 := 1) (by decide) (by decide) (by decide) (by decide) (by decide)
    rw [hSt.id] at this
    exact this
  have hMO2 := hSt.mt hn0 (o1 := 1) (o2 := 0) (by decide) (by decide) (by decide) (by decide) (by decide)
  have d4 := K4.d
  refine ⟨_, rfl, _, rfl, fun x dx nx ndx hdx => ?_⟩
  have kA : Ke H4 (upd (upd H4 dx (HO.own x)) x (HO.ins (He.ga K "Match") dx [])) := (Ke.new (S := fun _ => False) ndx).over nx
  refine ⟨x, dx, n, ts, .ref tw, u, ws, rfl, upd_same, W.ke kA, Ke.tup kA hu, hok, hwl, hwO, hn0, by omega, by omega, fun H5 lp k5 nlp' hM5 => ⟨rfl, ?_⟩⟩
  have kE5 : Ke H4 H5 := Kx.past kA k5 nx
  have nlp4 : H4 lp = none := kA.dom _ nlp'
  have hplp : p ≠ lp := fun e => by
    obtain ⟨ds, z, _⟩ := d4
    rw [e, nlp4] at z
    cases z
  have K5 := K4.ke kE5
  have d5 := d4.ke kE5
  have htw5 := Ke.tup kE5 htw
  have hu5 := Ke.tup kE5 hu
  have W5 := W.ke kE5
  clear nlp' k5 kA ndx nx hdx
  refine ⟨_, rfl, _, rfl, u, rfl, ⟨_, sqT_of hu5⟩, fun D nD => ?_⟩
  refine lc_tup (K := K) (a := u) (xs := ws) (fun j G => Ke H5 G ∧ G D = some (.lst ((ws.take j).map (trF 1 0)))) ⟨Ke.new nD, upd_same⟩ (fun j G _ hG => sqT_of (hG.1.tup hu5)) (fun j z G hz hG => ?_) (fun G hG => ?_)
  · obtain ⟨kG', gD⟩ := hG
    obtain ⟨jj, yy, s1, s2, s3, s4, s5⟩ := sw_at (hwv z (List.mem_of_getElem? hz))
    refine ⟨rfl, yes_ite ?_⟩
    refine ⟨by show 3 ≤ sizeLine; decide, fun l1 nl1 => ?_⟩
    have kl1 := kG'.trans (Ke.new (o := .lst [.non, .int 1, .int 0]) nl1)
    have gl1 : (upd G l1 (.lst [.non, .int 1, .int 0])) l1 = some (.lst [.non, .int 1, .int 0]) := upd_same
    have gD1 := lst_new (o := .lst [.non, .int 1, .int 0]) nl1 gD
    generalize upd G l1 _ = G1 at *
    refine ⟨by show 3 ≤ sizeLine; decide, fun l2 nl2 => ?_⟩
    have kl2 := kl1.trans (Ke.new (o := .lst [.non, .int 0, .int 1]) nl2)
    have gl2 : (upd G1 l2 (.lst [.non, .int 0, .int 1])) l2 = some (.lst [.non, .int 0, .int 1]) := upd_same
    have gD2 := lst_new (o := .lst [.non, .int 0, .int 1]) nl2 gD1
    have gl12 := lst_new (o := .lst [.non, .int 0, .int 1]) nl2 gl1
    generalize upd G1 l2 _ = G2 at *
    refine ⟨.inl ⟨rfl, _, sqL_of gl2⟩, _, rfl, l2, _, z, jj, yy, rfl, rfl, sqL_of gl2, s1, rfl, s2, s3, s4, ?_⟩
    refine ⟨l1, _, _, _, rfl, rfl, sqL_of gl12, s5, ?_⟩
    refine ⟨_, gD2, by rw [List.length_map, List.length_take]; omega, kl2.over nD, ?_⟩
    rw [take_next hz, List.map_append]
    exact upd_same
  obtain ⟨kD, gD⟩ := hG
  rw [List.take_length] at gD
  refine ⟨D, _, rfl, .inl ⟨sqL_of gD, fun u2 nu2 => ?_⟩⟩
  have kD2 := kD.trans (Ke.new (o := .tup (ws.map (trF 1 0))) nu2)
  have hu2 : (upd G u2 (.tup (ws.map (trF 1 0)))) u2 = some (.tup (ws.map (trF 1 0))) := upd_same
  generalize upd G u2 _ = G2 at *
  have hM6 := hM5.ke kD2
  have W6 := W5.ke kD2
  have d6 := d5.ke kD2
  have hu6 := Ke.tup kD2 hu5
  have htw6 := Ke.tup kD2 htw5
  have K6 := K5.ke kD2
  have nx2 := nu2
  clear nu2 kD gD
  refine fun x2 dx2 nx2 ndx2 hdx2 => ?_
  have kA2 : Ke G2 (upd (upd G2 dx2 (HO.own x2)) x2 (HO.ins (He.ga K "Match") dx2 [])) := (Ke.new (S := fun _ => False) ndx2).over nx2
  have hwO2 : ∀ z ∈ ws.map (trF 1 0), IsO z := fun z hz => by
    obtain ⟨y, _, rfl⟩ := List.mem_map.mp hz
    rcases trF_vals 1 0 y with e | e | e
    · exact .inl e
    · exact .inr ⟨_, e⟩
    · exact .inr ⟨_, e⟩
  refine ⟨x2, dx2, n, ts, .ref tw, u2, ws.map (trF 1 0), rfl, upd_same, W6.ke kA2, Ke.tup kA2 hu2, hok, by rw [List.length_map]; exact hwl, hwO2, hn0, by omega, by omega, fun H7 lp2 k7 nlp2' hS7 => ⟨rfl, ?_⟩⟩
  have kE7 : Ke G2 H7 := Kx.past kA2 k7 nx2
  have nlp2 : G2 lp2 = none := kA2.dom _ nlp2'
  have hplp2 : p ≠ lp2 := fun e => by
    obtain ⟨ds, z, _⟩ := d6
    rw [e, nlp2] at z
    cases z
  have hlplp2 : lp ≠ lp2 := fun e => by
    have z := hM6.pl
    rw [e, nlp2] at z
    cases z
  refine ⟨by show 0 ≤ sizeLine; decide, fun c0 nc0 => ?_⟩
  have k8 := kE7.trans (Ke.new (o := .tup []) nc0)
  have gc0 : (upd H7 c0 (.tup [])) c0 = some (.tup ((numsFrom 3 0 ws).map V.int)) := by rw [nums_gone hwv (by decide)]; exact upd_same
  have hS8 := hS7.ke (Ke.new (S := fun _ => False) (o := .tup []) nc0)
  generalize upd H7 c0 _ = H8 at *
  refine ⟨by show 0 ≤ sizeLine; decide, fun fo nfo => ?_⟩
  have k9 := k8.trans (Ke.new (o := .lst []) nfo)
  have hfp : fo ≠ p := fun e => by
    obtain ⟨ds, z, _⟩ := d6.ke k8
    rw [← e, nfo] at z
    cases z
  have hfl : fo ≠ lp := fun e => by
    have z := (hM6.ke k8).pl
    rw [← e, nfo] at z
    cases z
  have hfl2 : fo ≠ lp2 := fun e => by
    have z := hS8.pl
    rw [← e, nfo] at z
    cases z
  have gfo : (upd H8 fo (.lst [])) fo = some (.lst []) := upd_same
  have gc9 := tup_new (o := .lst []) nfo gc0
  have hS9 := hS8.ke (Ke.new (S := fun _ => False) (o := .lst []) nfo)
  generalize upd H8 fo _ = H9 at *
  have hM9 := hM6.ke k9
  have W9 := W6.ke k9
  have K9 := K6.ke k9
  have hu9 := Ke.tup k9 hu6
  have htw9 := Ke.tup k9 htw6
  have T9 := hT0.dk K9
  have n01 : G0 lp = none := K4.k.dom _ nlp4
  have n02 : G0 lp2 = none := K6.k.dom _ nlp2
  have n03 : G0 fo = none := K6.k.dom _ (k8.dom _ nfo)
  clear nfo nc0 k8 k9 hS8 hS7 kE7 nlp2' k7 kA2 nx2 ndx2 hdx2 gc0 W6 htw6 hu6 hM6 hu2 hM5 W5 htw5 hu5 K6 K5 d5 W hwt hu htw hwu hT K4 K3 K2 K1 hl hl3 kG k1 k3 k4
  obtain ⟨dx9, nv9, g9, _⟩ := hM9.at_
  have hj : (decide (((numsFrom 2 0 ws).length : Int) = n - 1) && ringlessF (fun x => x) (layerOf ts ws 2)) = decide (V.int n = V.int 1) := by
    rw [kept_joined hn0 hok hwl hMO, ← kept_joined hn0 hok hwl hMO, nums_gone hwv (by decide)]
    have e : layerOf ts ws 2 = [] := by
      rw [← mtc_pick (by omega), nums_gone hwv (by decide)]
      rfl
    rw [e, decide_int]
    show (decide (((0 : Nat) : Int) = n - 1) && true) = _
    rw [Bool.and_true]
    exact decide_eq_decide.mpr ⟨fun h => by omega, fun h => by omega⟩
  refine ⟨_, rfl, x, dx9, _, rfl, g9, mtc_joined, x, lp, n, ts, ws, rfl, hM9, T9, fun H10 k10 => ?_⟩
  have hM10 := hM9.ke k10
  obtain ⟨dx10, nv10, g10, _⟩ := hM10.at_
  refine ⟨_, rfl, tw, _, 0, _, rfl, rfl, sqT_of (Ke.tup k10 htw9), atI_nat (j := 0) rfl, rfl, _, _, rfl, ?_⟩
  rw [hj, decide_eq_true rfl]
  refine ⟨_, rfl, (if_neg Bool.false_ne_true).mpr ?_⟩
  have T10 := T9.kx k10
  have W10 := W9.ke k10
  refine ⟨_, rfl, _, rfl, _, rfl, x, dx10, _, rfl, g10, mtc_state, x, lp, n, ts, ws, rfl, hM10, T10, fun H11 st sa sb sc k11 nst hst hsa hsb hsc => ?_⟩
  refine ⟨.ref tw, n, ts, ws, c0, st, sa, sb, sc, rfl, W10.ke k11, hok, hn0, by omega, hwl, by omega, hMO, Ke.tup (k10.trans k11) gc9, hst, hsa, hsb, hsc, fun H12 k12 => ?_⟩
  refine ⟨_, rfl, iteF ?_⟩
  have kA := k10.trans (k11.trans k12)
  have K12 := K9.ke kA
  have M12 := hM9.ke kA
  have S12 := hS9.ke kA
  have T12 := T9.kx kA
  have W12 := W9.ke kA
  have gc12 := Ke.tup kA gc9
  have gfo12 := Ke.lst kA gfo
  have hu12 := Ke.tup kA hu9
  clear gc9 gfo hu9 W9 T9 hS9 hM9 K9 k10 k11 k12 kA hM10 g10 g9 T10 W10 hst hsa hsb hsc htw9
  refine ⟨_, rfl, _, rfl, _, rfl, p, .ref tw, n, ts, u, ws, rfl, K12.d, W12, hn0, by omega, hu12, hwl, hwO, fun H13 lo os k13 nlo hlo hpm => ?_⟩
  have K13 := K12.trans k13
  have lop : lo ≠ p := (K12.d.ne nlo).symm
  have lolp : lo ≠ lp := fun e => by have z := M12.pl; rw [← e, nlo] at z; cases z
  have lolp2 : lo ≠ lp2 := fun e => by have z := S12.pl; rw [← e, nlo] at z; cases z
  have lofo : lo ≠ fo := fun e => by have z := gfo12; rw [← e, nlo] at z; cases z
  have M13 := M12.dk k13 K12.d hplp
  have S13 := S12.dk k13 K12.d hplp2
  have W13 := W12.dk k13 K12.d
  have T13 := T12.dk k13
  have gc13 := k13.tup K12.d gc12
  have gfo13 := k13.lst gfo12 hfp
  have hu13 := k13.tup K12.d hu12
  have d13 := K13.d
  have hosl : os.length = ts.length := by rw [hpm.length_eq, upTo_length]; omega
  have hond : os.Nodup := hpm.nodup_iff.mpr (upTo_nd _)
  clear k13 K12 M12 S12 W12 T12 gc12 gfo12 hu12 nlo hj d4 d6
  refine ⟨lo, rfl, ⟨_, sqL_of hlo⟩, ?_⟩
  refine for_list (K := K) (a := lo) (xs := os.map V.int) (fun i σ G => ∃ (z2 y10 y11 y12 : Option V) (us vs fs : List V) (c : Addr) (fl : List (Int × V)), σ = [some (.ref a), some (.ref p), z2, some (.ref tw), some (.ref u), some (.ref x), y6, some (.ref x2), some (.ref c), some (.ref fo), y10, y11, y12, y13, y14, y15] ∧ Kx (fun b => b = p ∨ b = lp ∨ b = lp2 ∨ b = fo) H13 G ∧ Deck G p ∧ Mtc K G x lp n ts us ∧ MatchOk n ts us ∧ Mtc K G x2 lp2 n ts vs ∧ MatchOk n ts vs ∧ Pl3 os i us ∧ G c = some (.tup ((numsFrom 3 0 us).map V.int)) ∧ G fo = some (.lst fs) ∧ FdP G fs fl ∧ Trc ts ws fl us ∧ fl.length ≤ i)
    ⟨_, _, _, _, ws, _, [], c0, [], rfl, Kx.refl, d13, M13, hMO, S13, hMO2, ⟨fun t ht => ?_, fun t _ z => by rw [List.take_zero] at z; exact nomatch z⟩, gc13, gfo13, .nil, .nil, Nat.le_refl 0⟩ (fun i σ G _ hG => ?_) (fun i z σ G hx hG => ?_) (fun σ G hG => ?_)
  · rcases hwv _ (List.mem_of_getElem? ht) with z | z | z <;> cases z
  · obtain ⟨_, _, _, _, _, _, _, _, _, _, kx, _⟩ := hG
    exact sqL_of (kx.at_ _ _ hlo (fun _ z => nomatch z) fun z => by
      rcases z with z | z | z | z
      · exact lop z
      · exact lolp z
      · exact lolp2 z
      · exact lofo z)
  · obtain ⟨z2, y10, y11, y12, us, vs, fs, c, fl, rfl, kx, dG, MG, hO, SG, hO2, pl, gc, gfo, hF, hTr, hfln⟩ := hG
    obtain ⟨m, hm0, rfl⟩ := int_at hx
    obtain ⟨m0, m1⟩ := upTo_mem.mp (hpm.mem_iff.mp (List.mem_of_getElem? hm0))
    obtain ⟨t, rfl⟩ := Int.eq_ofNat_of_zero_le m0
    have ul := MG.wl
    have tl : t < us.length := by omega
    have hut := List.getElem?_eq_getElem tl
    generalize us[t] = vt at hut
    have s13 := not4 d13 M13.pl S13.pl gfo13
    have W' : Web G (.ref tw) n ts := kx.web s13 W13
    have tG := T13.kx kx
    obtain ⟨dx1, nv1, h1, _⟩ := MG.at_
    refine ⟨_, rfl, x, dx1, _, rfl, h1, mtc_state, x, lp, n, ts, us, rfl, MG, tG, fun H1 pp ka oa pa j1 npp hpp hka hoa hpa => ?_⟩
    have M1 := MG.ke j1
    have S1 := SG.ke j1
    have W1 := W'.ke j1
    have t1 := tG.kx j1
    have dd1 := dG.ke j1
    have gc1 := Ke.tup j1 gc
    have gfo1 := Ke.lst j1 gfo
    have hF1 := hF.mono fun _ _ => Ke.tup j1
    have kx1 := kx.trans (Ke.to j1)
    clear W' tG h1
    refine ⟨_, rfl, _, rfl, pp, _, 0, _, rfl, rfl, sqT_of hpp, atI_nat (j := 0) rfl, ?_⟩
    refine ⟨ka, _, rfl, .inr (sqT_of hka), rfl, List.all_eq_true.mpr (fun z hz => by obtain ⟨_, _, rfl⟩ := List.mem_map.mp hz; rfl), _, rfl, ?_⟩
    rw [if_pos rfl, inV_int]
    by_cases hin : (t : Int) ∈ numsFrom 2 0 us
    · rw [decide_eq_true hin]
      refine iteF ?_
      have h2 := (nums_iff.mp hin).2
      rw [Int.toNat_natCast] at h2
      exact ⟨_, _, _, _, us, vs, fs, c, fl, rfl, kx1, dd1, M1, hO, S1, hO2, pl.skip hm0 h2, gc1, gfo1, hF1, hTr, by omega⟩
    rw [decide_eq_false hin]
    refine iteT ?_
    obtain ⟨dx2, nv2, h2, _⟩ := M1.at_
    have v2 : vt ≠ .int 2 := fun e => hin (nums_iff.mpr ⟨by omega, by rw [Int.toNat_natCast, hut, e]⟩)
    have v3 : vt ≠ .int 3 := fun e => by
      have := pl.cut t (by rw [hut, e])
      obtain ⟨k, hk⟩ := List.getElem?_of_mem this
      rw [List.getElem?_take] at hk
      split at hk
      · have kl := (List.getElem?_eq_some_iff.mp hk).1
        have il := (List.getElem?_eq_some_iff.mp hm0).1
        have := (List.getElem?_inj kl hond).mp (hk.trans hm0.symm)
        omega
      · cases hk
    refine ⟨_, rfl, x, dx2, _, rfl, h2, mtc_cut, _, rfl, x, lp, n, ts, us, t, vt, rfl, M1, hO, hut, v2, v3, t1, fun H2 y us2 j2 M2 hO3 hC => ?_⟩
    have s1 := not4 dd1 M1.pl S1.pl gfo1
    have slp : ∀ q xs, H1 q = some (.tup xs) → ¬ q = lp := fun q xs z e => s1 q xs z (.inr (.inl e))
    have S2 := S1.kx j2 (fun e => by obtain ⟨_, _, z, _⟩ := S1.at_; rw [e, M1.pl] at z; cases z) (Ne.symm hlplp2) slp
    have W2 : Web H2 (.ref tw) n ts := j2.web slp W1
    have t2 := t1.kx j2
    have dd2 : Deck H2 p := by
      obtain ⟨ds, e, g⟩ := dd1
      exact ⟨ds, j2.at_ _ _ e (fun _ z => nomatch z) hplp, g⟩
    have gc2 := j2.tup gc1 (slp _ _ gc1)
    have gfo2 := j2.at_ _ _ gfo1 (fun _ z => nomatch z) hfl
    have hF2 := hF1.mono fun q xs z => j2.tup z (slp q xs z)
    have hpp2 := j2.tup hpp (slp _ _ hpp)
    have hka2 := j2.tup hka (slp _ _ hka)
    have hoa2 := j2.tup hoa (slp _ _ hoa)
    have hpa2 := j2.tup hpa (slp _ _ hpa)
    have kx2 := kx1.trans (j2.mono fun _ z => .inr (.inl z))
    have hnl3 := nums_length 3 0 us
    have hwl2 := MG.len
    clear M1 S1 W1 t1 dd1 gc1 gfo1 hF1 hpp hka hoa hpa kx1 j2 slp s1
    refine ⟨_, rfl, _, rfl, by show 1 ≤ sizeLine; decide, fun z nz => ?_⟩
    have kz := Ke.new (S := fun _ => False) (o := .tup [.int (t : Int)]) nz
    have hz : (upd H2 z (.tup [.int (t : Int)])) z = some (.tup ([(t : Int)].map V.int)) := upd_same
    have gc3 := Ke.tup kz gc2
    generalize upd H2 z _ = H3 at *
    refine ⟨c, z, _, _, rfl, rfl, gc3, hz, by rw [List.length_map, List.length_map]; show (numsFrom 3 0 us).length + 1 ≤ _; omega, fun c2 H6 k6 h6 => ?_⟩
    rw [← List.map_append] at h6
    refine ⟨c2, _, rfl, sqT_of h6, fun ms o hp hs no => ?_⟩
    have hms := hC.sort3 hp hs
    rw [hms]
    have k7 := kz.trans (k6.trans (Ke.new (o := .lst ((numsFrom 3 0 us2).map V.int)) no))
    have go : (upd H6 o (.lst ((numsFrom 3 0 us2).map V.int))) o = some (.lst ((numsFrom 3 0 us2).map V.int)) := upd_same
    generalize upd H6 o _ = H7 at *
    refine ⟨o, _, rfl, .inl ⟨sqL_of go, fun w nw => ?_⟩⟩
    have k8 := k7.trans (Ke.new (o := .tup ((numsFrom 3 0 us2).map V.int)) nw)
    have gw : (upd H7 w (.tup ((numsFrom 3 0 us2).map V.int))) w = some (.tup ((numsFrom 3 0 us2).map V.int)) := upd_same
    generalize upd H7 w _ = H8 at *
    have gfo8 := Ke.lst k8 gfo2
    have fsl := hF2.length
    have il := (List.getElem?_eq_some_iff.mp hm0).1
    refine ⟨_, rfl, .inl ⟨rfl, _, sqL_of gfo8⟩, ?_⟩
    refine ⟨_, rfl, _, rfl, by show 2 ≤ sizeLine; decide, fun e ne => ?_⟩
    have k9 := k8.trans (Ke.new (o := .tup [.int (t : Int), y]) ne)
    have ge : (upd H8 e (.tup [.int (t : Int), y])) e = some (.tup [.int (t : Int), y]) := upd_same
    have gw9 := tup_new (o := .tup [.int (t : Int), y]) ne gw
    have gfo9 := lst_new (o := .tup [.int (t : Int), y]) ne gfo8
    generalize upd H8 e _ = H9' at *
    refine ⟨fo, fs, _, rfl, rfl, gfo9, by omega, ?_⟩
    have M9' := M2.ke k9
    have S9' := S2.ke k9
    have W9' := W2.ke k9
    have t9 := t2.kx k9
    have dd9 := dd2.ke k9
    have s9 := not4 dd9 M9'.pl S9'.pl gfo9
    have kfo : Kx (fun b => b = fo) H9' (upd H9' fo (.lst (fs ++ [.ref e]))) := Ke.put gfo9 fun _ z => nomatch z
    have nfo' : ∀ q xs, H9' q = some (.tup xs) → ¬ q = fo := fun q xs z e => s9 q xs z (.inr (.inr (.inr e)))
    have gfo10 : (upd H9' fo (.lst (fs ++ [.ref e]))) fo = some (.lst (fs ++ [.ref e])) := upd_same
    have M10 := M9'.kx kfo (fun e => by obtain ⟨_, _, z, _⟩ := M9'.at_; rw [e, gfo9] at z; cases z) (Ne.symm hfl) nfo'
    have S10 := S9'.kx kfo (fun e => by obtain ⟨_, _, z, _⟩ := S9'.at_; rw [e, gfo9] at z; cases z) (Ne.symm hfl2) nfo'
    have W10 : Web _ (.ref tw) n ts := kfo.web nfo' W9'
    have t10 := t9.kx kfo
    have dd10 : Deck (upd H9' fo (.lst (fs ++ [.ref e]))) p := by
      obtain ⟨ds, e, g⟩ := dd9
      exact ⟨ds, kfo.at_ _ _ e (fun _ z => nomatch z) (Ne.symm hfp), g⟩
    have mv : ∀ q xs, H2 q = some (.tup xs) → (upd H9' fo (.lst (fs ++ [.ref e]))) q = some (.tup xs) := fun q xs z => kfo.tup (Ke.tup k9 z) (nfo' _ _ (Ke.tup k9 z))
    have hF10 : FdP (upd H9' fo (.lst (fs ++ [.ref e]))) (fs ++ [.ref e]) (fl ++ [((t : Int), y)]) := (hF2.mono mv).append (.cons ⟨e, rfl, kfo.tup ge (nfo' _ _ ge)⟩ .nil)
    have gw10 := kfo.tup gw9 (nfo' _ _ gw9)
    have hpp10 := mv _ _ hpp2
    have hka10 := mv _ _ hka2
    have hoa10 := mv _ _ hoa2
    have hpa10 := mv _ _ hpa2
    have kx10 := (kx2.trans (Ke.to k9)).trans (kfo.mono fun _ z => .inr (.inr (.inr z)))
    clear M9' S9' W9' t9 dd9 s9 kfo nfo' mv hpp2 hka2 hoa2 hpa2 kx2 k9 k8 k7 k6 kz gfo9 gw9 ge gfo8 gw go gfo2 gc2 hF2 M2 S2 W2 t2 dd2 ne nw no nz hz gc3 h6
    generalize upd H9' fo _ = J0 at *
    refine ⟨_, rfl, _, rfl, _, rfl, _, rfl, _, rfl, _, rfl, .ref tw, x, lp, n, ts, us, us2, pp, ka, oa, pa, w, t, y, rfl, W10, M10, hO3, hO, hC, hpp10, hka10, hoa10, hpa10, gw10, t10, fun J1 j1 => ?_⟩
    refine ⟨_, rfl, iteF ?_⟩
    have M11 := M10.ke j1
    have t11 := t10.kx j1
    obtain ⟨dx3, nv3, h3, _⟩ := M11.at_
    refine ⟨_, rfl, x, dx3, _, rfl, h3, mtc_state, x, lp, n, ts, us2, rfl, M11, t11, fun J2 qq kb ob pb j2' nqq hqq hkb hob hpb => ?_⟩
    have j12 := j1.trans j2'
    have M12 := M10.ke j12
    have S12 := S10.ke j12
    have W12 := W10.ke j12
    have t12 := t10.kx j12
    have dd12 := dd10.ke j12
    have gw12 := Ke.tup j12 gw10
    have gfo12 := Ke.lst j12 gfo10
    have hF12 := hF10.mono fun _ _ => Ke.tup j12
    have kx12 := kx10.trans (Ke.to j12)
    clear M10 S10 W10 t10 dd10 gw10 gfo10 hF10 kx10 j12 M11 t11 h3 hpp10 hka10 hoa10 hpa10
    refine ⟨_, rfl, _, rfl, _, rfl, p, .ref tw, x2, lp2, n, ts, vs, rfl, dd12, hplp2, W12, by omega, S12, hO2, t12, fun J3 vs2 j3 dd13 S13' hO4 => ?_⟩
    refine ⟨_, rfl, iteF ?_⟩
    have s12 := not4 dd12 M12.pl S12.pl gfo12
    have snot : ∀ q xs, J2 q = some (.tup xs) → ¬ (q = p ∨ q = lp2) := fun q xs z e => e.elim (fun e => s12 q xs z (.inl e)) fun e => s12 q xs z (.inr (.inr (.inl e)))
    have M13' := M12.kx j3 (fun e => by
      obtain ⟨_, _, z, _⟩ := M12.at_
      rcases e with e | e
      · obtain ⟨ds, z2, _⟩ := dd12
        rw [e, z2] at z; cases z
      · rw [e, S12.pl] at z; cases z) (fun e => e.elim (fun e => hplp e.symm) hlplp2) snot
    have t13 := t12.kx j3
    have gw13 := j3.tup gw12 (snot _ _ gw12)
    have gfo13' := j3.at_ _ _ gfo12 (fun _ z => nomatch z) (fun e => e.elim hfp hfl2)
    have hF13 := hF12.mono fun q xs z => j3.tup z (snot q xs z)
    have hqq13 := j3.tup hqq (snot _ _ hqq)
    have hkb13 := j3.tup hkb (snot _ _ hkb)
    have hob13 := j3.tup hob (snot _ _ hob)
    have hpb13 := j3.tup hpb (snot _ _ hpb)
    have kx13 := kx12.trans (j3.mono fun b z => z.elim .inl fun e => .inr (.inr (.inl e)))
    clear M12 S12 W12 t12 dd12 gw12 gfo12 hF12 kx12 hqq hkb hob hpb snot s12 j3 j1 j2'
    obtain ⟨dx4, nv4, h4, _⟩ := M13'.at_
    refine ⟨_, rfl, x, dx4, _, rfl, h4, mtc_state, x, lp, n, ts, us2, rfl, M13', t13, fun J4 rr kc oc pc j4 nrr hrr hkc hoc hpc => ?_⟩
    refine ⟨_, rfl, _, _, dp_st hrr hkc hoc hpc, dp_st (Ke.tup j4 hqq13) (Ke.tup j4 hkb13) (Ke.tup j4 hob13) (Ke.tup j4 hpb13), shaped_lots _, shaped_lots _, ?_⟩
    rw [eqv_lots]
    refine ⟨_, rfl, (if_neg Bool.false_ne_true).mpr ?_⟩
    have M14 := M13'.ke j4
    have t14 := t13.kx j4
    obtain ⟨dx5, nv5, h5, _⟩ := M14.at_
    refine ⟨_, rfl, x, dx5, _, rfl, h5, mtc_cuts, x, lp, n, ts, us2, rfl, M14, t14, fun J5 cc j5 ncc hcc => ?_⟩
    have j45 := j4.trans j5
    have gw15 := Ke.tup j45 gw13
    refine ⟨_, rfl, .tuple ((numsFrom 3 0 us2).map PyData.int), .tuple ((numsFrom 3 0 us2).map PyData.int), .tup (sqT_of hcc) (dp_ints _), .tup (sqT_of gw15) (dp_ints _), shaped_tints _, shaped_tints _, ?_⟩
    rw [eqv_itups, decide_eq_true rfl]
    refine ⟨_, rfl, iteF ?_⟩
    exact ⟨_, _, _, _, us2, vs2, _, w, _, rfl, kx13.trans (Ke.to j45), dd13.ke j45, M13'.ke j45, hO3, S13'.ke j45, hO4, hC.pl pl hm0, gw15, Ke.lst j45 gfo13', hF13.mono fun _ _ => Ke.tup j45, hTr.snoc hC, by rw [List.length_append]; exact Nat.succ_le_succ hfln⟩
  · obtain ⟨z2, y10, y11, y12, us, vs, fs, c, fl, rfl, kx, dG, MG, hO, SG, hO2, pl, gc, gfo, hF, hTr, hfln⟩ := hG
    rw [List.length_map] at pl hfln
    have ul := MG.wl
    have s13 := not4 d13 M13.pl S13.pl gfo13
    have W' : Web G (.ref tw) n ts := kx.web s13 W13
    have hu' := kx.tup hu13 (s13 _ _ hu13)
    have tG := T13.kx kx
    have K14 : Dk p G0 G := ⟨K13.k.pastG kx fun b z => by
      rcases z with z | z | z | z
      · exact .inl z
      · rw [z]; exact .inr n01
      · rw [z]; exact .inr n02
      · rw [z]; exact .inr n03, dG⟩
    obtain ⟨dx1, nv1, h1, _⟩ := MG.at_
    refine ⟨_, rfl, x, dx1, _, rfl, h1, mtc_state, x, lp, n, ts, us, rfl, MG, tG, fun H1 pp ka oa pa j1 npp hpp hka hoa hpa => ?_⟩
    have hall : ∀ t : Nat, t < us.length → (t : Int) ∈ os.take os.length := fun t ht => by
      rw [List.take_length]
      exact hpm.mem_iff.mpr (upTo_mem.mpr ⟨by omega, by omega⟩)
    have e0 := pl.gone hall (k := 0) (by decide) (by decide)
    have e1 := pl.gone hall (k := 1) (by decide) (by decide)
    rw [e0] at hoa
    rw [e1] at hpa
    have M1 := MG.ke j1
    have t1 := tG.kx j1
    refine ⟨_, rfl, pp, _, rfl, hpp, fun sl H2 j2 hsl => ?_⟩
    have hsl : H2 sl = some (.tup [.ref oa, .ref pa]) := hsl
    have hoa2 := Ke.tup j2 hoa
    have hpa2 := Ke.tup j2 hpa
    refine ⟨by show 0 ≤ sizeLine; decide, fun q1 nq1 => ?_⟩
    have k3 := Ke.new (S := fun _ => False) (o := .tup []) nq1
    have gq1 : (upd H2 q1 (.tup [])) q1 = some (.tup (([] : List Int).map V.int)) := upd_same
    generalize upd H2 q1 _ = H3 at *
    refine ⟨by show 0 ≤ sizeLine; decide, fun q2 nq2 => ?_⟩
    have k4 := Ke.new (S := fun _ => False) (o := .tup []) nq2
    have gq2 : (upd H3 q2 (.tup [])) q2 = some (.tup (([] : List Int).map V.int)) := upd_same
    have gq12 := Ke.tup k4 gq1
    have k34 := k3.trans k4
    generalize upd H3 q2 _ = H4 at *
    refine ⟨by show 2 ≤ sizeLine; decide, fun q3 nq3 => ?_⟩
    have k5 := Ke.new (S := fun _ => False) (o := .tup [.ref q1, .ref q2]) nq3
    have gq3 : (upd H4 q3 (.tup [.ref q1, .ref q2])) q3 = some (.tup [.ref q1, .ref q2]) := upd_same
    have gq15 := Ke.tup k5 gq12
    have gq25 := Ke.tup k5 gq2
    have k345 := k34.trans k5
    generalize upd H4 q3 _ = H5' at *
    refine ⟨_, _, .tup (sqT_of (Ke.tup k345 hsl)) (.cons (.tup (sqT_of (Ke.tup k345 hoa2)) (dp_ints _)) (.cons (.tup (sqT_of (Ke.tup k345 hpa2)) (dp_ints _)) .nil)), .tup (sqT_of gq3) (.cons (.tup (sqT_of gq15) (dp_ints _)) (.cons (.tup (sqT_of gq25) (dp_ints _)) .nil)), shaped_lots [[], []], shaped_lots [[], []], ?_⟩
    rw [show PyData.eqv (PyData.tuple [PyData.tuple (List.map PyData.int []), PyData.tuple (List.map PyData.int [])]) (PyData.tuple [PyData.tuple (List.map PyData.int []), PyData.tuple (List.map PyData.int [])]) = true from eqv_lots [[], []]]
    refine ⟨_, rfl, (if_neg Bool.false_ne_true).mpr ?_⟩
    have j15 := j1.trans (j2.trans k345)
    have M5 := MG.ke j15
    have t5 := tG.kx j15
    obtain ⟨dx2, nv2, h2, _⟩ := M5.at_
    refine ⟨_, rfl, x, dx2, _, rfl, h2, mtc_joined, x, lp, n, ts, us, rfl, M5, t5, fun H6 k6 => ?_⟩
    rw [joined_end hn0 hok (by omega) hO e0]
    refine ⟨_, _, rfl, rfl, ?_⟩
    refine ⟨_, rfl, iteF ?_⟩
    have kB := j15.trans k6
    have M6 := MG.ke kB
    have t6 := tG.kx kB
    have gfo6 := Ke.lst kB gfo
    have hF6 := hF.mono fun _ _ => Ke.tup kB
    have K6 := K14.ke kB
    have W6 := W'.ke kB
    have hu6 := Ke.tup kB hu'
    clear M5 t5 h2 gq3 gq15 gq25 k345 gq12 gq2 gq1 hoa2 hpa2 hsl M1 t1 MG tG gfo hF W' hu' h1 k34 k3 k4 k5 j15 j2 nq1 nq2 nq3 hpp hka hoa hpa
    refine ⟨_, rfl, _, rfl, fun x3 dx3 nx3 ndx3 hdx3 => ?_⟩
    have kA3 : Ke H6 (upd (upd H6 dx3 (HO.own x3)) x3 (HO.ins (He.ga K "Match") dx3 [])) := (Ke.new (S := fun _ => False) ndx3).over nx3
    refine ⟨x3, dx3, n, ts, .ref tw, u, ws, rfl, upd_same, W6.ke kA3, Ke.tup kA3 hu6, hok, hwl, hwO, hn0, by omega, by omega, fun H7 lp3 k7 nlp3' hN7 => ⟨rfl, ?_⟩⟩
    have kE7 : Ke H6 H7 := Kx.past kA3 k7 nx3
    have nlp3 : H6 lp3 = none := kA3.dom _ nlp3'
    have n03' : G0 lp3 = none := K6.k.dom _ nlp3
    have hlp3 : lp ≠ lp3 := fun e => by have z := M6.pl; rw [e, nlp3] at z; cases z
    have hfo3 : fo ≠ lp3 := fun e => by have z := gfo6; rw [e, nlp3] at z; cases z
    have hp3 : p ≠ lp3 := fun e => by obtain ⟨ds, z, _⟩ := K6.d; rw [e, nlp3] at z; cases z
    have M7 := M6.ke kE7
    have t7 := t6.kx kE7
    have gfo7 := Ke.lst kE7 gfo6
    have hF7 := hF6.mono fun _ _ => Ke.tup kE7
    have K7 := K6.ke kE7
    clear M6 t6 gfo6 hF6 K6 W6 hu6 k7 kA3 nx3 ndx3 hdx3 nlp3' k6 kB
    have hFl := hF7.length
    refine ⟨_, rfl, fo, rfl, ⟨_, sqL_of gfo7⟩, fun D nD => ?_⟩
    have hlp7 := hN7.pl
    have nl3 : ∀ q xs, H7 q = some (.tup xs) → ¬ q = lp3 := fun q xs z e => by rw [e, hlp7] at z; cases z
    have hD3 : D ≠ lp3 := fun e => by rw [e, hlp7] at nD; cases nD
    refine lc_it (walk_list (K := K) (a := fo) (xs := fs)) (fun j J => ∃ wi, Kx (fun b => b = lp3) H7 J ∧ Mtc K J x3 lp3 n ts wi ∧ MatchOk n ts wi ∧ Trc ts ws (fl.take j) wi ∧ J D = some (.lst ((fl.take j).map Prod.snd))) ⟨ws, Kx.refl.over nD, hN7.ke (Ke.new nD), hMO, by rw [List.take_zero]; exact .nil, upd_same⟩ (fun j J _ hJ => by obtain ⟨_, kJ, _⟩ := hJ; exact sqL_of (kJ.at_ _ _ gfo7 (fun _ z => nomatch z) hfo3)) (fun j z J J' hj hJ hy => ?_) (fun J hJ => ?_)
    · obtain ⟨wi, kJ, MJ, OJ, TJ, gD⟩ := hJ
      obtain ⟨rfl, hx⟩ := hy
      obtain ⟨pr, q1, hpr, rfl, hq1⟩ := hF7.get hx
      have hq1J := kJ.tup hq1 (nl3 _ _ hq1)
      obtain ⟨t, ws', vs', ept, a1, a2, a3⟩ := hTr.at_ hpr
      obtain rfl := TJ.same a1
      obtain ⟨vt, b1, b2, b3, _⟩ := id a2
      obtain ⟨dxJ, nvJ, hJ1, _⟩ := MJ.at_
      rw [ept] at hq1J
      refine ⟨q1, _, rfl, sqT_of hq1J, rfl, _, _, rfl, _, [], rfl, rfl, rfl, yes_ite ?_⟩
      refine ⟨_, rfl, x3, dxJ, _, rfl, hJ1, mtc_cut, _, rfl, x3, lp3, n, ts, wi, t, vt, rfl, MJ, OJ, b1, b2, b3, t7.kx kJ, fun J2 y us' kJ2 MJ2 OJ2 hC2 => ?_⟩
      obtain ⟨e1, e2⟩ := hC2.same a2
      subst e2
      have gD2 := kJ2.at_ _ _ gD (fun _ z => nomatch z) hD3
      refine ⟨_, gD2, by rw [List.length_map, List.length_take]; omega, us', (kJ.trans kJ2).over nD, ?_, OJ2, a3, ?_⟩
      · have kp : Kx (fun b => b = D) J2 (upd J2 D (.lst ((fl.take j).map Prod.snd ++ [y]))) := Ke.put gD2 fun _ z => nomatch z
        exact MJ2.kx kp (fun e => by obtain ⟨_, _, z, _⟩ := MJ2.at_; rw [e, gD2] at z; cases z) (Ne.symm hD3) fun q xs z e => by rw [e, gD2] at z; cases z
      · rw [take_next hpr, List.map_append, e1]
        exact upd_same
    obtain ⟨wi, kJ, MJ, OJ, TJ, gD⟩ := hJ
    rw [hFl, List.take_length] at TJ gD
    obtain rfl := TJ.same hTr
    have MXJ := M7.kx kJ (fun e => by obtain ⟨_, _, z, _⟩ := M7.at_; rw [e, hlp7] at z; cases z) hlp3 nl3
    have tJ := t7.kx kJ
    have gfoJ := kJ.at_ _ _ gfo7 (fun _ z => nomatch z) hfo3
    have hFJ := hF7.mono fun q xs z => kJ.tup z (nl3 q xs z)
    have dJ : Deck J p := by
      obtain ⟨ds, e, g⟩ := K7.d
      exact ⟨ds, kJ.at_ _ _ e (fun _ z => nomatch z) hp3, g⟩
    have KJ : Dk p G0 J := ⟨K7.k.pastG kJ fun b z => .inr (by rw [z]; exact n03'), dJ⟩
    refine ⟨_, rfl, _, rfl, fo, rfl, ⟨_, sqL_of gfoJ⟩, fun D2 nD2 => ?_⟩
    refine lc_it (walk_list (K := K) (a := fo) (xs := fs)) (fun j J2 => Ke J J2 ∧ J2 D2 = some (.lst ((fl.take j).map Prod.snd))) ⟨Ke.new nD2, upd_same⟩ (fun j J2 _ hJ => sqL_of (hJ.1.lst gfoJ)) (fun j z J2 J' hj hJ hy => ?_) (fun J2 hJ => ?_)
    · obtain ⟨kJ2, gD2⟩ := hJ
      obtain ⟨rfl, hx⟩ := hy
      obtain ⟨pr, q1, hpr, rfl, hq1⟩ := hFJ.get hx
      refine ⟨q1, _, rfl, sqT_of (kJ2.tup hq1), rfl, _, _, rfl, _, [], rfl, rfl, rfl, yes_ite ?_⟩
      refine ⟨_, rfl, _, gD2, by rw [List.length_map, List.length_take]; omega, kJ2.over nD2, ?_⟩
      rw [take_next hpr, List.map_append]
      exact upd_same
    obtain ⟨kJ2, gD2⟩ := hJ
    rw [hFl, List.take_length] at gD2
    have hIO : ∀ z ∈ fl.map Prod.snd, IsO z := fun z hz => by
      obtain ⟨pr, hp, rfl⟩ := List.mem_map.mp hz
      exact hTr.isO pr hp
    refine ⟨.list ((fl.map Prod.snd).map dO), .list ((fl.map Prod.snd).map dO), .lst (sqL_of (Ke.lst kJ2 gD)) (dp_O hIO), .lst (sqL_of gD2) (dp_O hIO), shaped_OL _, shaped_OL _, ?_⟩
    rw [eqv_OL]
    refine ⟨_, rfl, (if_neg Bool.false_ne_true).mpr ?_⟩
    have MJ2 := MJ.ke kJ2
    have t2 := tJ.kx kJ2
    obtain ⟨dx4, nv4, h4, _⟩ := MJ2.at_
    refine ⟨_, rfl, x3, dx4, _, rfl, h4, mtc_state, x3, lp3, n, ts, wi, rfl, MJ2, t2, fun J4 rr kc oc pc j4 nrr hrr hkc hoc hpc => ?_⟩
    have MX4 := MXJ.ke (kJ2.trans j4)
    obtain ⟨dx5, nv5, h5, _⟩ := MX4.at_
    refine ⟨_, rfl, x, dx5, _, rfl, h5, mtc_state, x, lp, n, ts, wi, rfl, MX4, t2.kx j4, fun J5 r2 kd od pd j5 nr2 hr2 hkd hod hpd => ?_⟩
    refine ⟨_, _, dp_st (Ke.tup j5 hrr) (Ke.tup j5 hkc) (Ke.tup j5 hoc) (Ke.tup j5 hpc), dp_st hr2 hkd hod hpd, shaped_lots _, shaped_lots _, ?_⟩
    rw [eqv_lots]
    refine ⟨_, rfl, iteF ?_⟩
    exact ⟨_, _, _, _, _, _, _, _, _, _, _, _, _, _, rfl, KJ.ke (kJ2.trans (j4.trans j5))⟩
end FF
namespace FF
open PySem PySem.Spec PyProof.Rows L2
/-! ### the head -/
def d_is_number : He.DefD := ⟨("is_number", none), "is_number", "is_number", defArgs s_is_number, defBody s_is_number, defScope s_is_number, [], []⟩
def d_leader_of : He.DefD := ⟨("leader_of", none), "leader_of", "leader_of", defArgs s_leader_of, defBody s_leader_of, defScope s_leader_of, [], []⟩
def d_join_points : He.DefD := ⟨("join_points", none), "join_points", "join_points", defArgs s_join_points, defBody s_join_points, defScope s_join_points, [], []⟩
def d_ringless : He.DefD := ⟨("ringless", none), "ringless", "ringless", defArgs s_ringless, defBody s_ringless, defScope s_ringless, [], []⟩
def d_is_tree : He.DefD := ⟨("is_tree", none), "is_tree", "is_tree", defArgs s_is_tree, defBody s_is_tree, defScope s_is_tree, [], []⟩
def d_law_mixed : He.DefD := ⟨("_law_mixed", none), "_law_mixed", "_law_mixed", defArgs s_law_mixed, defBody s_law_mixed, defScope s_law_mixed, [], []⟩
def d_law_deck : He.DefD := ⟨("_law_deck", none), "_law_deck", "_law_deck", defArgs s_law_deck, defBody s_law_deck, defScope s_law_deck, [], []⟩
def d_law_next : He.DefD := ⟨("_law_next", none), "_law_next", "_law_next", defArgs s_law_next, defBody s_law_next, defScope s_law_next, [], []⟩
def d_law_tie : He.DefD := ⟨("_law_tie", none), "_law_tie", "_law_tie", defArgs s_law_tie, defBody s_law_tie, defScope s_law_tie, [], []⟩
def d_law_tree : He.DefD := ⟨("_law_tree", none), "_law_tree", "_law_tree", defArgs s_law_tree, defBody s_law_tree, defScope s_law_tree, [], []⟩
def d_law_heads : He.DefD := ⟨("_law_heads", none), "_law_heads", "_law_heads", defArgs s_law_heads, defBody s_law_heads, defScope s_law_heads, [], []⟩
def d_law_is_int : He.DefD := ⟨("_law_is_int", none), "_law_is_int", "_law_is_int", defArgs s_law_is_int, defBody s_law_is_int, defScope s_law_is_int, [], []⟩
def d_law_two_trees : He.DefD := ⟨("_law_two_trees", none), "_law_two_trees", "_law_two_trees", defArgs s_law_two_trees, defBody s_law_two_trees, defScope s_law_two_trees, [], []⟩
def d_law_joins_all : He.DefD := ⟨("_law_joins_all", none), "_law_joins_all", "_law_joins_all", defArgs s_law_joins_all, defBody s_law_joins_all, defScope s_law_joins_all, [], []⟩
def d_law_is_tree : He.DefD := ⟨("_law_is_tree", none), "_law_is_tree", "_law_is_tree", defArgs s_law_is_tree, defBody s_law_is_tree, defScope s_law_is_tree, [], []⟩
def d_law_are_ties : He.DefD := ⟨("_law_are_ties", none), "_law_are_ties", "_law_are_ties", defArgs s_law_are_ties, defBody s_law_are_ties, defScope s_law_are_ties, [], []⟩
def d_law_is_state : He.DefD := ⟨("_law_is_state", none), "_law_is_state", "_law_is_state", defArgs s_law_is_state, defBody s_law_is_state, defScope s_law_is_state, [], []⟩
def d_law_is_true : He.DefD := ⟨("_law_is_true", none), "_law_is_true", "_law_is_true", defArgs s_law_is_true, defBody s_law_is_true, defScope s_law_is_true, [], []⟩
def d_law_order : He.DefD := ⟨("_law_order", none), "_law_order", "_law_order", defArgs s_law_order, defBody s_law_order, defScope s_law_order, [], []⟩
def d_law_is_stepped : He.DefD := ⟨("_law_is_stepped", none), "_law_is_stepped", "_law_is_stepped", defArgs s_law_is_stepped, defBody s_law_is_stepped, defScope s_law_is_stepped, [], []⟩
def d_law_is_second : He.DefD := ⟨("_law_is_second", none), "_law_is_second", "_law_is_second", defArgs s_law_is_second, defBody s_law_is_second, defScope s_law_is_second, [], []⟩
def d_law : He.DefD := ⟨("law", none), "law", "law", defArgs s_law, defBody s_law, defScope s_law, [], []⟩
def d_Match___init__ : He.DefD := ⟨("Match", some "__init__"), "__init__", "Match.__init__", defArgs s_Match___init__, defBody s_Match___init__, defScope s_Match___init__, [], []⟩
def d_Match_cut : He.DefD := ⟨("Match", some "cut"), "cut", "Match.cut", defArgs s_Match_cut, defBody s_Match_cut, defScope s_Match_cut, [], []⟩
def d_Match_bridge_for : He.DefD := ⟨("Match", some "bridge_for"), "bridge_for", "Match.bridge_for", defArgs s_Match_bridge_for, defBody s_Match_bridge_for, defScope s_Match_bridge_for, [], []⟩
def d_Match_numbers_at : He.DefD := ⟨("Match", some "numbers_at"), "numbers_at", "Match.numbers_at", defArgs s_Match_numbers_at, defBody s_Match_numbers_at, defScope s_Match_numbers_at, [], []⟩
def d_Match_state : He.DefD := ⟨("Match", some "state"), "state", "Match.state", defArgs s_Match_state, defBody s_Match_state, defScope s_Match_state, [], []⟩
def d_Match_cuts : He.DefD := ⟨("Match", some "cuts"), "cuts", "Match.cuts", defArgs s_Match_cuts, defBody s_Match_cuts, defScope s_Match_cuts, [], []⟩
def d_Match_joined : He.DefD := ⟨("Match", some "joined"), "joined", "Match.joined", defArgs s_Match_joined, defBody s_Match_joined, defScope s_Match_joined, [], []⟩
def fn : List He.DefD := [d_is_number, d_leader_of, d_join_points, d_ringless, d_is_tree, d_law_mixed, d_law_deck, d_law_next, d_law_tie, d_law_tree, d_law_heads, d_law_is_int, d_law_two_trees, d_law_joins_all, d_law_is_tree, d_law_are_ties, d_law_is_state, d_law_is_true, d_law_order, d_law_is_stepped, d_law_is_second, d_law, d_Match___init__, d_Match_cut, d_Match_bridge_for, d_Match_numbers_at, d_Match_state, d_Match_cuts, d_Match_joined]
def fa : List He.Fa := [.glo "is_number", .glo "leader_of", .glo "join_points", .glo "ringless", .glo "is_tree", .glo "_law_mixed", .glo "_law_deck", .glo "_law_next", .glo "_law_tie", .glo "_law_tree", .glo "_law_heads", .glo "_law_is_int", .glo "_law_two_trees", .glo "_law_joins_all", .glo "_law_is_tree", .glo "_law_are_ties", .glo "_law_is_state", .glo "_law_is_true", .glo "_law_order", .glo "_law_is_stepped", .glo "_law_is_second", .glo "law", .free "ValueError", .free "bool", .free "enumerate", .free "int", .free "isinstance", .free "len", .free "list", .free "max", .free "min", .free "range", .free "reversed", .free "set", .free "sorted", .free "tuple", .int "ONE" 0, .int "OTHER" 1, .int "KEPT" 2, .int "CUT" 3, .cls "Match", .glo "Match", .noat "Match" "net", .noat "Match" "places", .mkr "Match", .meth "Match" "cut", .meth "Match" "bridge_for", .meth "Match" "numbers_at", .meth "Match" "state", .meth "Match" "cuts", .meth "Match" "joined"]
def tf : List He.Defn := [("Match", some "numbers_at")]
abbrev R : PySem.W.OpenRow := PySem.W.OpenLaw.row PySem.Challenge.rw_fewforests_k80_whole_cut_and_kept
abbrev hk : PySem.W.Hook := He.hookX 4 fa fn [] tf (fun _ => true)
def ob (s : PySem.W.SharedT) : He.AlX := He.obsX 4 fa fn [] tf (fun _ => true) (HandSHeadRun.getT s)
theorem ob_eq (s : PySem.W.SharedT) : ob s = hk.obs s.abs := He.obsX_eq (HandSHeadRun.getT_eq s)
def loose : List PySem.Str := "is_number" :: "leader_of" :: "join_points" :: "ringless" :: "is_tree" :: "_law_mixed" :: "_law_deck" :: "_law_next" :: "_law_tie" :: "_law_tree" :: "_law_heads" :: "_law_is_int" :: "_law_two_trees" :: "_law_joins_all" :: "_law_is_tree" :: "_law_are_ties" :: "_law_is_state" :: "_law_is_true" :: "_law_order" :: "_law_is_stepped" :: "_law_is_second" :: "ONE" :: "OTHER" :: "KEPT" :: "CUT" :: "WebsError" :: "NoTie" :: "Match" :: []
theorem run (w : World) : HandSHeadRun.RunEq R (PySem.W.view R.prog [34]) hk ob 3000 loose w := by
  intro os
  kernel_rfl
theorem lawAt {w : World} {K : PySem.W.Frag} {h : Heap} {mg : Str → Option Value} {f : Addr} (X : K.In h) (G : h.Ns mainGlobals mg) (hfa : mg ("law" : Str) = some (.ref f)) (c : He.SaysX fa fn [] tf (fun _ => true) w h K) :
    LamX.LawAtS PySem.Challenge.rw_fewforests_k80_whole_cut_and_kept w K CX0 11 63 "_law_script" mg f h := by
  have cd : He.SaysD fa fn K := c.t.d
  letI LI : LT := ⟨fun _ => false⟩
  obtain ⟨fd_is_number, F_is_number⟩ := cd.def_ 0 (d := d_is_number) rfl
  have g_is_number := He.glo_ok X G (cd.fact 0 (f := .glo "is_number") rfl)
  have D_is_number : DefAt K mg "is_number" s_is_number ["thing", "least", "most"] _ fd_is_number := ⟨F_is_number, g_is_number, FunD.bindsN F_is_number fun _ _ _ _ _ _ us hl => match us, hl with | [_, _, _], _ => rfl⟩
  obtain ⟨fd_leader_of, F_leader_of⟩ := cd.def_ 1 (d := d_leader_of) rfl
  have g_leader_of := He.glo_ok X G (cd.fact 1 (f := .glo "leader_of") rfl)
  have D_leader_of : DefAt K mg "leader_of" s_leader_of ["leaders", "point"] _ fd_leader_of := ⟨F_leader_of, g_leader_of, FunD.bindsN F_leader_of fun _ _ _ _ _ _ us hl => match us, hl with | [_, _], _ => rfl⟩
  obtain ⟨fd_join_points, F_join_points⟩ := cd.def_ 2 (d := d_join_points) rfl
  have g_join_points := He.glo_ok X G (cd.fact 2 (f := .glo "join_points") rfl)
  have D_join_points : DefAt K mg "join_points" s_join_points ["leaders", "a", "b"] _ fd_join_points := ⟨F_join_points, g_join_points, FunD.bindsN F_join_points fun _ _ _ _ _ _ us hl => match us, hl with | [_, _, _], _ => rfl⟩
  obtain ⟨fd_ringless, F_ringless⟩ := cd.def_ 3 (d := d_ringless) rfl
  have g_ringless := He.glo_ok X G (cd.fact 3 (f := .glo "ringless") rfl)
  have D_ringless : DefAt K mg "ringless" s_ringless ["web", "ties"] _ fd_ringless := ⟨F_ringless, g_ringless, FunD.bindsN F_ringless fun _ _ _ _ _ _ us hl => match us, hl with | [_, _], _ => rfl⟩
  obtain ⟨fd_is_tree, F_is_tree⟩ := cd.def_ 4 (d := d_is_tree) rfl
  have g_is_tree := He.glo_ok X G (cd.fact 4 (f := .glo "is_tree") rfl)
  have D_is_tree : DefAt K mg "is_tree" s_is_tree ["web", "numbers"] _ fd_is_tree := ⟨F_is_tree, g_is_tree, FunD.bindsN F_is_tree fun _ _ _ _ _ _ us hl => match us, hl with | [_, _], _ => rfl⟩
  obtain ⟨fd__law_mixed, F__law_mixed⟩ := cd.def_ 5 (d := d_law_mixed) rfl
  have g__law_mixed := He.glo_ok X G (cd.fact 5 (f := .glo "_law_mixed") rfl)
  have D__law_mixed : DefAt K mg "_law_mixed" s_law_mixed ["_law_cell", "_law_k"] _ fd__law_mixed := ⟨F__law_mixed, g__law_mixed, FunD.bindsN F__law_mixed fun _ _ _ _ _ _ us hl => match us, hl with | [_, _], _ => rfl⟩
  obtain ⟨fd__law_deck, F__law_deck⟩ := cd.def_ 6 (d := d_law_deck) rfl
  have g__law_deck := He.glo_ok X G (cd.fact 6 (f := .glo "_law_deck") rfl)
  have D__law_deck : DefAt K mg "_law_deck" s_law_deck ["_law_script", "_law_many"] _ fd__law_deck := ⟨F__law_deck, g__law_deck, FunD.bindsN F__law_deck fun _ _ _ _ _ _ us hl => match us, hl with | [_, _], _ => rfl⟩
  obtain ⟨fd__law_next, F__law_next⟩ := cd.def_ 7 (d := d_law_next) rfl
  have g__law_next := He.glo_ok X G (cd.fact 7 (f := .glo "_law_next") rfl)
  have D__law_next : DefAt K mg "_law_next" s_law_next ["_law_deck_here"] _ fd__law_next := ⟨F__law_next, g__law_next, FunD.bindsN F__law_next fun _ _ _ _ _ _ us hl => match us, hl with | [_], _ => rfl⟩
  obtain ⟨fd__law_tie, F__law_tie⟩ := cd.def_ 8 (d := d_law_tie) rfl
  have g__law_tie := He.glo_ok X G (cd.fact 8 (f := .glo "_law_tie") rfl)
  have D__law_tie : DefAt K mg "_law_tie" s_law_tie ["_law_deck_here", "_law_points"] _ fd__law_tie := ⟨F__law_tie, g__law_tie, FunD.bindsN F__law_tie fun _ _ _ _ _ _ us hl => match us, hl with | [_, _], _ => rfl⟩
  obtain ⟨fd__law_tree, F__law_tree⟩ := cd.def_ 9 (d := d_law_tree) rfl
  have g__law_tree := He.glo_ok X G (cd.fact 9 (f := .glo "_law_tree") rfl)
  have D__law_tree : DefAt K mg "_law_tree" s_law_tree ["_law_deck_here", "_law_points"] _ fd__law_tree := ⟨F__law_tree, g__law_tree, FunD.bindsN F__law_tree fun _ _ _ _ _ _ us hl => match us, hl with | [_, _], _ => rfl⟩
  obtain ⟨fd__law_heads, F__law_heads⟩ := cd.def_ 10 (d := d_law_heads) rfl
  have g__law_heads := He.glo_ok X G (cd.fact 10 (f := .glo "_law_heads") rfl)
  have D__law_heads : DefAt K mg "_law_heads" s_law_heads ["_law_points", "_law_ties"] _ fd__law_heads := ⟨F__law_heads, g__law_heads, FunD.bindsN F__law_heads fun _ _ _ _ _ _ us hl => match us, hl with | [_, _], _ => rfl⟩
  obtain ⟨fd__law_is_int, F__law_is_int⟩ := cd.def_ 11 (d := d_law_is_int) rfl
  have g__law_is_int := He.glo_ok X G (cd.fact 11 (f := .glo "_law_is_int") rfl)
  have D__law_is_int : DefAt K mg "_law_is_int" s_law_is_int ["_law_thing", "_law_least", "_law_most"] _ fd__law_is_int := ⟨F__law_is_int, g__law_is_int, FunD.bindsN F__law_is_int fun _ _ _ _ _ _ us hl => match us, hl with | [_, _, _], _ => rfl⟩
  obtain ⟨fd__law_two_trees, F__law_two_trees⟩ := cd.def_ 12 (d := d_law_two_trees) rfl
  have g__law_two_trees := He.glo_ok X G (cd.fact 12 (f := .glo "_law_two_trees") rfl)
  have D__law_two_trees : DefAt K mg "_law_two_trees" s_law_two_trees ["_law_deck_here", "_law_points", "_law_more"] _ fd__law_two_trees := ⟨F__law_two_trees, g__law_two_trees, FunD.bindsN F__law_two_trees fun _ _ _ _ _ _ us hl => match us, hl with | [_, _, _], _ => rfl⟩
  obtain ⟨fd__law_joins_all, F__law_joins_all⟩ := cd.def_ 13 (d := d_law_joins_all) rfl
  have g__law_joins_all := He.glo_ok X G (cd.fact 13 (f := .glo "_law_joins_all") rfl)
  have D__law_joins_all : DefAt K mg "_law_joins_all" s_law_joins_all ["_law_web", "_law_ties"] _ fd__law_joins_all := ⟨F__law_joins_all, g__law_joins_all, FunD.bindsN F__law_joins_all fun _ _ _ _ _ _ us hl => match us, hl with | [_, _], _ => rfl⟩
  obtain ⟨fd__law_is_tree, F__law_is_tree⟩ := cd.def_ 14 (d := d_law_is_tree) rfl
  have g__law_is_tree := He.glo_ok X G (cd.fact 14 (f := .glo "_law_is_tree") rfl)
  have D__law_is_tree : DefAt K mg "_law_is_tree" s_law_is_tree ["_law_web", "_law_ties"] _ fd__law_is_tree := ⟨F__law_is_tree, g__law_is_tree, FunD.bindsN F__law_is_tree fun _ _ _ _ _ _ us hl => match us, hl with | [_, _], _ => rfl⟩
  obtain ⟨fd__law_are_ties, F__law_are_ties⟩ := cd.def_ 15 (d := d_law_are_ties) rfl
  have g__law_are_ties := He.glo_ok X G (cd.fact 15 (f := .glo "_law_are_ties") rfl)
  have D__law_are_ties : DefAt K mg "_law_are_ties" s_law_are_ties ["_law_web", "_law_thing"] _ fd__law_are_ties := ⟨F__law_are_ties, g__law_are_ties, FunD.bindsN F__law_are_ties fun _ _ _ _ _ _ us hl => match us, hl with | [_, _], _ => rfl⟩
  obtain ⟨fd__law_is_state, F__law_is_state⟩ := cd.def_ 16 (d := d_law_is_state) rfl
  have g__law_is_state := He.glo_ok X G (cd.fact 16 (f := .glo "_law_is_state") rfl)
  have D__law_is_state : DefAt K mg "_law_is_state" s_law_is_state ["_law_web", "_law_cuts", "_law_thing"] _ fd__law_is_state := ⟨F__law_is_state, g__law_is_state, FunD.bindsN F__law_is_state fun _ _ _ _ _ _ us hl => match us, hl with | [_, _, _], _ => rfl⟩
  obtain ⟨fd__law_is_true, F__law_is_true⟩ := cd.def_ 17 (d := d_law_is_true) rfl
  have g__law_is_true := He.glo_ok X G (cd.fact 17 (f := .glo "_law_is_true") rfl)
  have D__law_is_true : DefAt K mg "_law_is_true" s_law_is_true ["_law_found", "_law_due"] _ fd__law_is_true := ⟨F__law_is_true, g__law_is_true, FunD.bindsN F__law_is_true fun _ _ _ _ _ _ us hl => match us, hl with | [_, _], _ => rfl⟩
  obtain ⟨fd__law_order, F__law_order⟩ := cd.def_ 18 (d := d_law_order) rfl
  have g__law_order := He.glo_ok X G (cd.fact 18 (f := .glo "_law_order") rfl)
  have D__law_order : DefAt K mg "_law_order" s_law_order ["_law_deck_here", "_law_web", "_law_trees"] _ fd__law_order := ⟨F__law_order, g__law_order, FunD.bindsN F__law_order fun _ _ _ _ _ _ us hl => match us, hl with | [_, _, _], _ => rfl⟩
  obtain ⟨fd__law_is_stepped, F__law_is_stepped⟩ := cd.def_ 19 (d := d_law_is_stepped) rfl
  have g__law_is_stepped := He.glo_ok X G (cd.fact 19 (f := .glo "_law_is_stepped") rfl)
  have D__law_is_stepped : DefAt K mg "_law_is_stepped" s_law_is_stepped ["_law_web", "_law_match", "_law_ahead", "_law_tie_here", "_law_told", "_law_cuts"] _ fd__law_is_stepped := ⟨F__law_is_stepped, g__law_is_stepped, FunD.bindsN F__law_is_stepped fun _ _ _ _ _ _ us hl => match us, hl with | [_, _, _, _, _, _], _ => rfl⟩
  obtain ⟨fd__law_is_second, F__law_is_second⟩ := cd.def_ 20 (d := d_law_is_second) rfl
  have g__law_is_second := He.glo_ok X G (cd.fact 20 (f := .glo "_law_is_second") rfl)
  have D__law_is_second : DefAt K mg "_law_is_second" s_law_is_second ["_law_deck_here", "_law_web", "_law_second"] _ fd__law_is_second := ⟨F__law_is_second, g__law_is_second, FunD.bindsN F__law_is_second fun _ _ _ _ _ _ us hl => match us, hl with | [_, _, _], _ => rfl⟩
  obtain ⟨fd_law, F_law⟩ := cd.def_ 21 (d := d_law) rfl
  have g_law := He.glo_ok X G (cd.fact 21 (f := .glo "law") rfl)
  have D_law : DefAt K mg "law" s_law ["_law_script"] _ fd_law := ⟨F_law, g_law, FunD.bindsN F_law fun _ _ _ _ _ _ us hl => match us, hl with | [_], _ => rfl⟩
  have T : Blt mg := ⟨He.free_ok X G (cd.fact 22 (f := .free "ValueError") rfl), He.free_ok X G (cd.fact 23 (f := .free "bool") rfl), He.free_ok X G (cd.fact 24 (f := .free "enumerate") rfl), He.free_ok X G (cd.fact 25 (f := .free "int") rfl), He.free_ok X G (cd.fact 26 (f := .free "isinstance") rfl), He.free_ok X G (cd.fact 27 (f := .free "len") rfl), He.free_ok X G (cd.fact 28 (f := .free "list") rfl), He.free_ok X G (cd.fact 29 (f := .free "max") rfl), He.free_ok X G (cd.fact 30 (f := .free "min") rfl), He.free_ok X G (cd.fact 31 (f := .free "range") rfl), He.free_ok X G (cd.fact 32 (f := .free "reversed") rfl), He.free_ok X G (cd.fact 33 (f := .free "set") rfl), He.free_ok X G (cd.fact 34 (f := .free "sorted") rfl), He.free_ok X G (cd.fact 35 (f := .free "tuple") rfl), He.int_ok X G (cd.fact 36 (f := .int "ONE" 0) rfl), He.int_ok X G (cd.fact 37 (f := .int "OTHER" 1) rfl), He.int_ok X G (cd.fact 38 (f := .int "KEPT" 2) rfl), He.int_ok X G (cd.fact 39 (f := .int "CUT" 3) rfl)⟩
  have CT : Ktx K mg := ⟨He.cls_ok (cd.fact 40 (f := .cls "Match") rfl), He.glo_ok X G (cd.fact 41 (f := .glo "Match") rfl), He.noat_ok (cd.fact 42 (f := .noat "Match" "net") rfl), He.noat_ok (cd.fact 43 (f := .noat "Match" "places") rfl)⟩
  obtain ⟨fd_Match___init__, F_Match___init__⟩ := cd.def_ 22 (d := d_Match___init__) rfl
  have D_Match___init__ : DefAtI K (He.ga K "Match") "Match.__init__" s_Match___init__ ["self", "web", "trees"] _ fd_Match___init__ := ⟨F_Match___init__, FunD.bindsN F_Match___init__ fun _ _ _ _ _ _ us hl => match us, hl with | [_, _, _], _ => rfl, He.mkr_ok (cd.fact 44 (f := .mkr "Match") rfl)⟩
  obtain ⟨fd_Match_cut, F_Match_cut⟩ := cd.def_ 23 (d := d_Match_cut) rfl
  have D_Match_cut : DefAtM K (He.ga K "Match") "cut" "Match.cut" s_Match_cut ["self", "tie"] _ fd_Match_cut := ⟨F_Match_cut, FunD.bindsN F_Match_cut fun _ _ _ _ _ _ us hl => match us, hl with | [_, _], _ => rfl, He.meth_ok (cd.fact 45 (f := .meth "Match" "cut") rfl)⟩
  obtain ⟨fd_Match_bridge_for, F_Match_bridge_for⟩ := cd.def_ 24 (d := d_Match_bridge_for) rfl
  have D_Match_bridge_for : DefAtM K (He.ga K "Match") "bridge_for" "Match.bridge_for" s_Match_bridge_for ["self", "place"] _ fd_Match_bridge_for := ⟨F_Match_bridge_for, FunD.bindsN F_Match_bridge_for fun _ _ _ _ _ _ us hl => match us, hl with | [_, _], _ => rfl, He.meth_ok (cd.fact 46 (f := .meth "Match" "bridge_for") rfl)⟩
  obtain ⟨fd_Match_numbers_at, F_Match_numbers_at⟩ := cd.def_ 25 (d := d_Match_numbers_at) rfl
  have D_Match_numbers_at : DefAtM K (He.ga K "Match") "numbers_at" "Match.numbers_at" s_Match_numbers_at ["self", "place"] _ fd_Match_numbers_at := ⟨F_Match_numbers_at, FunD.bindsN F_Match_numbers_at fun _ _ _ _ _ _ us hl => match us, hl with | [_, _], _ => rfl, He.meth_ok (cd.fact 47 (f := .meth "Match" "numbers_at") rfl)⟩
  obtain ⟨fd_Match_state, F_Match_state⟩ := cd.def_ 26 (d := d_Match_state) rfl
  have D_Match_state : DefAtM K (He.ga K "Match") "state" "Match.state" s_Match_state ["self"] _ fd_Match_state := ⟨F_Match_state, FunD.bindsN F_Match_state fun _ _ _ _ _ _ us hl => match us, hl with | [_], _ => rfl, He.meth_ok (cd.fact 48 (f := .meth "Match" "state") rfl)⟩
  obtain ⟨fd_Match_cuts, F_Match_cuts⟩ := cd.def_ 27 (d := d_Match_cuts) rfl
  have D_Match_cuts : DefAtM K (He.ga K "Match") "cuts" "Match.cuts" s_Match_cuts ["self"] _ fd_Match_cuts := ⟨F_Match_cuts, FunD.bindsN F_Match_cuts fun _ _ _ _ _ _ us hl => match us, hl with | [_], _ => rfl, He.meth_ok (cd.fact 49 (f := .meth "Match" "cuts") rfl)⟩
  obtain ⟨fd_Match_joined, F_Match_joined⟩ := cd.def_ 28 (d := d_Match_joined) rfl
  have D_Match_joined : DefAtM K (He.ga K "Match") "joined" "Match.joined" s_Match_joined ["self"] _ fd_Match_joined := ⟨F_Match_joined, FunD.bindsN F_Match_joined fun _ _ _ _ _ _ us hl => match us, hl with | [_], _ => rfl, He.meth_ok (cd.fact 50 (f := .meth "Match" "joined") rfl)⟩
  cases hfa.symm.trans g_law
  obtain ⟨cc_Match_numbers_at, hcd_Match_numbers_at⟩ := code_at F_Match_numbers_at
  have bl := FunD.bindsA (ps := ["_law_script"]) F_law fun _ _ _ _ _ _ us hl => match us, hl with | [_], _ => rfl
  refine ⟨fd_law, tf.map (He.cT K), sp_law K (tf.map fun p => (He.cT K p).2), fun p hp => ?_, fun p hp => ?_, fun p hp => ?_, fun s v => bl s [v] rfl, fun H a ns hl hbits hH hS => ?_, fun base KB GB hTB => ?_⟩
  · obtain ⟨d, hd, rfl⟩ := List.mem_map.mp hp
    exact c.empty d hd
  · obtain ⟨d, hd, rfl⟩ := List.mem_map.mp hp
    exact c.out d hd
  · obtain ⟨d, hd, rfl⟩ := List.mem_map.mp hp
    exact PySem.W.codeHd_of_K X (c.hd d hd)
  · exact law_start hl hbits (fun P hP => by
      obtain ⟨d, hd, rfl⟩ := List.mem_map.mp hP
      exact ⟨#[], hH _ (List.mem_map.mpr ⟨d, hd, rfl⟩), trivial, rfl⟩) hS
  · have G_is_number := ok_is_number (P := PySem.Challenge.rw_fewforests_k80_whole_cut_and_kept.prog) (w := w) (base := base) (tb := tf.map fun p => (He.cT K p).2) T D_is_number CT
    have G_leader_of := ok_leader_of (P := PySem.Challenge.rw_fewforests_k80_whole_cut_and_kept.prog) (w := w) (base := base) (tb := tf.map fun p => (He.cT K p).2) T D_leader_of CT
    have G_join_points := ok_join_points (P := PySem.Challenge.rw_fewforests_k80_whole_cut_and_kept.prog) (w := w) (base := base) (tb := tf.map fun p => (He.cT K p).2) T D_join_points CT D_leader_of G_leader_of
    have G_ringless := ok_ringless (P := PySem.Challenge.rw_fewforests_k80_whole_cut_and_kept.prog) (w := w) (base := base) (tb := tf.map fun p => (He.cT K p).2) T D_ringless CT D_join_points G_join_points
    have G_is_tree := ok_is_tree (P := PySem.Challenge.rw_fewforests_k80_whole_cut_and_kept.prog) (w := w) (base := base) (tb := tf.map fun p => (He.cT K p).2) T D_is_tree CT D_ringless G_ringless
    have G__law_mixed := ok__law_mixed (P := PySem.Challenge.rw_fewforests_k80_whole_cut_and_kept.prog) (w := w) (base := base) (tb := tf.map fun p => (He.cT K p).2) T D__law_mixed CT
    have G__law_deck := ok__law_deck (P := PySem.Challenge.rw_fewforests_k80_whole_cut_and_kept.prog) (w := w) (base := base) (tb := tf.map fun p => (He.cT K p).2) T D__law_deck CT D__law_mixed G__law_mixed
    have G__law_next := ok__law_next (P := PySem.Challenge.rw_fewforests_k80_whole_cut_and_kept.prog) (w := w) (base := base) (tb := tf.map fun p => (He.cT K p).2) T D__law_next CT
    have G__law_tie := ok__law_tie (P := PySem.Challenge.rw_fewforests_k80_whole_cut_and_kept.prog) (w := w) (base := base) (tb := tf.map fun p => (He.cT K p).2) T D__law_tie CT D__law_next G__law_next
    have G__law_tree := ok__law_tree (P := PySem.Challenge.rw_fewforests_k80_whole_cut_and_kept.prog) (w := w) (base := base) (tb := tf.map fun p => (He.cT K p).2) T D__law_tree CT D__law_next G__law_next
    have G__law_heads := ok__law_heads (P := PySem.Challenge.rw_fewforests_k80_whole_cut_and_kept.prog) (w := w) (base := base) (tb := tf.map fun p => (He.cT K p).2) T D__law_heads CT
    have G__law_is_int := ok__law_is_int (P := PySem.Challenge.rw_fewforests_k80_whole_cut_and_kept.prog) (w := w) (base := base) (tb := tf.map fun p => (He.cT K p).2) T D__law_is_int CT
    have G__law_two_trees := ok__law_two_trees (P := PySem.Challenge.rw_fewforests_k80_whole_cut_and_kept.prog) (w := w) (base := base) (tb := tf.map fun p => (He.cT K p).2) T D__law_two_trees CT D__law_next G__law_next D__law_tie G__law_tie D__law_tree G__law_tree
    have G__law_joins_all := ok__law_joins_all (P := PySem.Challenge.rw_fewforests_k80_whole_cut_and_kept.prog) (w := w) (base := base) (tb := tf.map fun p => (He.cT K p).2) T D__law_joins_all CT D__law_heads G__law_heads
    have G__law_is_tree := ok__law_is_tree (P := PySem.Challenge.rw_fewforests_k80_whole_cut_and_kept.prog) (w := w) (base := base) (tb := tf.map fun p => (He.cT K p).2) T D__law_is_tree CT D__law_joins_all G__law_joins_all
    have G__law_are_ties := ok__law_are_ties (P := PySem.Challenge.rw_fewforests_k80_whole_cut_and_kept.prog) (w := w) (base := base) (tb := tf.map fun p => (He.cT K p).2) T D__law_are_ties CT D__law_is_int G__law_is_int
    have G__law_is_state := ok__law_is_state (P := PySem.Challenge.rw_fewforests_k80_whole_cut_and_kept.prog) (w := w) (base := base) (tb := tf.map fun p => (He.cT K p).2) T D__law_is_state CT D__law_is_tree G__law_is_tree D__law_are_ties G__law_are_ties
    have G__law_is_true := ok__law_is_true (P := PySem.Challenge.rw_fewforests_k80_whole_cut_and_kept.prog) (w := w) (base := base) (tb := tf.map fun p => (He.cT K p).2) T D__law_is_true CT
    have G__law_order := ok__law_order (P := PySem.Challenge.rw_fewforests_k80_whole_cut_and_kept.prog) (w := w) (base := base) (tb := tf.map fun p => (He.cT K p).2) T D__law_order CT D__law_next G__law_next
    have G_Match_numbers_at := ok_Match_numbers_at (P := PySem.Challenge.rw_fewforests_k80_whole_cut_and_kept.prog) (w := w) (base := base) (tb := tf.map fun p => (He.cT K p).2) T D_Match_numbers_at CT (hTB (He.cT K ("Match", some "numbers_at")) (List.mem_map.mpr ⟨("Match", some "numbers_at"), by decide, rfl⟩)) (code_is F_Match_numbers_at hcd_Match_numbers_at) (List.mem_map.mpr ⟨("Match", some "numbers_at"), by decide, rfl⟩)
    have G_Match_state := ok_Match_state (P := PySem.Challenge.rw_fewforests_k80_whole_cut_and_kept.prog) (w := w) (base := base) (tb := tf.map fun p => (He.cT K p).2) T D_Match_state CT D_Match_numbers_at G_Match_numbers_at
    have G_Match_cuts := ok_Match_cuts (P := PySem.Challenge.rw_fewforests_k80_whole_cut_and_kept.prog) (w := w) (base := base) (tb := tf.map fun p => (He.cT K p).2) T D_Match_cuts CT D_Match_numbers_at G_Match_numbers_at
    have G_Match_joined := ok_Match_joined (P := PySem.Challenge.rw_fewforests_k80_whole_cut_and_kept.prog) (w := w) (base := base) (tb := tf.map fun p => (He.cT K p).2) T D_Match_joined CT D_is_tree G_is_tree D_Match_numbers_at G_Match_numbers_at
    have G__law_is_stepped := ok__law_is_stepped (P := PySem.Challenge.rw_fewforests_k80_whole_cut_and_kept.prog) (w := w) (base := base) (tb := tf.map fun p => (He.cT K p).2) T D__law_is_stepped CT D__law_is_int G__law_is_int D__law_joins_all G__law_joins_all D__law_is_state G__law_is_state D__law_is_true G__law_is_true D_Match_state G_Match_state D_Match_cuts G_Match_cuts D_Match_joined G_Match_joined
    have G_Match_bridge_for := ok_Match_bridge_for (P := PySem.Challenge.rw_fewforests_k80_whole_cut_and_kept.prog) (w := w) (base := base) (tb := tf.map fun p => (He.cT K p).2) T D_Match_bridge_for CT D_join_points G_join_points D_Match_numbers_at G_Match_numbers_at
    have G_Match_cut := ok_Match_cut (P := PySem.Challenge.rw_fewforests_k80_whole_cut_and_kept.prog) (w := w) (base := base) (tb := tf.map fun p => (He.cT K p).2) T D_Match_cut CT D_is_number G_is_number D_Match_bridge_for G_Match_bridge_for
    have G__law_is_second := ok__law_is_second (P := PySem.Challenge.rw_fewforests_k80_whole_cut_and_kept.prog) (w := w) (base := base) (tb := tf.map fun p => (He.cT K p).2) T D__law_is_second CT D__law_next G__law_next D_Match_state G_Match_state D_Match_cuts G_Match_cuts D__law_is_stepped G__law_is_stepped D_Match_cut G_Match_cut
    have G_Match___init__ := ok_Match___init__ (P := PySem.Challenge.rw_fewforests_k80_whole_cut_and_kept.prog) (w := w) (base := base) (tb := tf.map fun p => (He.cT K p).2) T D_Match___init__ CT
    have G_law := ok_law (P := PySem.Challenge.rw_fewforests_k80_whole_cut_and_kept.prog) (w := w) (base := base) (tb := tf.map fun p => (He.cT K p).2) T D_law CT D__law_deck G__law_deck D__law_next G__law_next D__law_two_trees G__law_two_trees D__law_is_state G__law_is_state D__law_is_true G__law_is_true D__law_order G__law_order D_Match_state G_Match_state D_Match_cuts G_Match_cuts D_Match_joined G_Match_joined D__law_is_stepped G__law_is_stepped D_Match_cut G_Match_cut D__law_is_second G__law_is_second D_Match___init__ G_Match___init__
    exact G_law
end FF
open PySem PySem.W PySem.Calls PyProof.Rows
theorem PySem.Challenge.cw_fewforests_k80_whole_cut_and_kept_holds : PySem.Challenge.rw_fewforests_k80_whole_cut_and_kept.Holds := by
  w_on; o_law
  refine HandSHeadRun.head_any (r := OpenLaw.row PySem.Challenge.rw_fewforests_k80_whole_cut_and_kept) (q := view (OpenLaw.row PySem.Challenge.rw_fewforests_k80_whole_cut_and_kept).prog [34]) (H := FF.hk) (ob := FF.ob) (M := 3000) (loose := FF.loose) (d := HandSHeadRun.topDef (OpenLaw.row PySem.Challenge.rw_fewforests_k80_whole_cut_and_kept).prog 34) (kwd := []) FF.ob_eq
    (by kernel_rfl) (fun s => by kernel_rfl) FF.run (by kernel_rfl) (by kernel_rfl) (by kernel_rfl) (by rfl) (by first | assumption | decide +kernel) (by decide +kernel) ⟨rfl, rfl, rfl, rfl, rfl, by decide +kernel⟩ ?hw ?hc
  case hw => w_witness2
  case hc =>
    skip
    refine LamX.walk_ofTsE (l := PySem.Challenge.rw_fewforests_k80_whole_cut_and_kept) (n := 63) (k := 11) (x := "_law_script") (CX := fun _ => L2.CX0) rfl (by decide) (by kernel_rfl) ⟨rfl, by decide, by decide⟩ ?F (fun _ _ _ _ _ z => z)
    intro w mg fa h Y G hmg0
    obtain ⟨K, KX, c⟩ := Y
    have hmg : mg ("law" : PySem.Str) = some (.ref fa) := by
      have e : (HandSHeadRun.topDef (OpenLaw.row PySem.Challenge.rw_fewforests_k80_whole_cut_and_kept).prog 34).name = ("law" : PySem.Str) := by kernel_rfl
      rw [← e]
      exact hmg0
    exact ⟨K, KX, FF.lawAt KX G hmg c⟩

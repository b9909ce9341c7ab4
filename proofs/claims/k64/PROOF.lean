import PyProof.Rows.All
import Wide.All
import OpenK.AllK
import Wide.FinOn
import HandS.ForMost
import HandS.Rev
import HandS.RevTup
import PyProof.ListStr
import HandS.Style
import HandS.IsInst
import HandS.Walk
import HandS.Text
import KE.KIntText
import HandS.Iter
import KE.GoesEnum
import KE.KExcIs
import HandS.ForExc
import HandS.ExcIs
import HandS.ExcInit
import HandS.ExcField
import HandS.CallLocal
import HandS.Sort
import PyProof.EqAt
import PyProof.NeKinds
import HandS.Conv
import HandS.ListItems
import HandS.DeepEq
import HandS.Comp
import HandS.DictComp
import HandS.Finally
import HandS.Codes
import HandS.Star
import HandS.Evl
import HandS.RaiseMore
import PyProof.StrBlock2
import HandS.ExcOwn
import HandS.WordsExc
import HandS.Zip
import HandS.Deep
import HandS.More
import HandS.CallSlots
import HandS.TupAny
import PySem.Challenge.RW_askladder_k64_one_book_two_programs
set_option Elab.async false
set_option maxRecDepth 100000
set_option maxHeartbeats 1000000
/-! list(reversed(x)), x a list: a new list -/
namespace Ak
open PySem PySem.Spec PyProof.Rows L2 RT
/-- the new list's maker, called on the iterator that goes down a list -/
theorem list_of_down {P : Program} {w : World} {B : Around} {X : Value → Shared → Prop} {z : Shared} {Want : Value → Shared → Prop} {it src : Addr} {vs : Array Value} (calm : B.handled = none) (small : vs.size ≤ sizeLine)
    (at_it : z.heap.IsRevIter it src ((vs.size : Int) - 1)) (at_src : z.heap.IsList src vs) (apart : src ≠ it)
    (goal : ∀ (g : Heap) (tk : Nat) (got : Array Value) (c : Nat), (∀ b o, b ≠ it → z.heap.get? b = some o → g.get? b = some o) → g.get? z.heap.objs.size = some { cls := .type "list", dict := none, data := .seq got c, slots := #[] } →
      ItemsOf (fun i v => vs[vs.size - 1 - i]? = some v) got vs.size → Want (.ref z.heap.objs.size) { z with heap := g, toks := tk }) : wpAny (model P w) B (call (.type "list") [.ref it]) Want X z := by
  obtain ⟨o1, e1, _⟩ := id at_it
  obtain ⟨o2, e2, _⟩ := id at_src
  have n1 := Nat.ne_of_gt (Heap.lt_size e1); have n2 := Nat.ne_of_gt (Heap.lt_size e2)
  refine callType_codes F.called_list (F.typeCall_list_1 _) F.entry_list_init (code_list_new (Q₁ := fun r q => r = .ref z.heap.objs.size ∧ q = { z with heap := z.heap.push { cls := .type "list", data := .seq #[] } }) _ ⟨rfl, rfl⟩) ?_
  rintro _ _ ⟨rfl, rfl⟩
  have new0 := Heap.get?_push_size (o := ({ cls := .type "list", data := .seq #[] } : Obj)) z.heap rfl
  have at_it1 := at_it.at (h' := z.heap.push { cls := .type "list", data := .seq #[] }) fun o e => Heap.get?_push_of_some _ e
  have at_src1 := at_src.push { cls := .type "list", data := .seq #[] }
  refine ⟨⟨_, new0, rfl⟩, F.args_list_init_2 _ _, ?_⟩
  generalize hz : z.heap.objs.size = S at *
  have same : ∀ {b : Addr} {o : Obj}, b ≠ S → (z.heap.push { cls := .type "list", data := .seq #[] }).get? b = some o → ((z.heap.push { cls := .type "list", data := .seq #[] }).update S (Obj.mapSeq fun _ => #[])).get? b = some o := fun nb e => by
    rw [Heap.get?_update_other _ _ (Ne.symm nb)]; exact e
  refine wpAny_bind (m := Builtin.List.listItems (.ref S)) ?_
  unfold Builtin.List.listItems; refine wpAny_bind (wpAny_seqItems new0 rfl (wpAny_pure ?_))
  refine wpAny_bind (m := Builtin.List.listUpdate (.ref S) fun _ => #[]) ?_
  refine wpAny_updateSeq (f := fun _ => #[]) new0 rfl (wpAny_bind (wpAny_letGo ?_))
  have new1 := Heap.get?_update_self (Obj.mapSeq fun _ => #[]) new0 rfl
  have at_it2 := at_it1.at fun o e => same n1.symm e
  have at_src2 : ((z.heap.push { cls := .type "list", data := .seq #[] }).update S (Obj.mapSeq fun _ => #[])).IsList src vs := let ⟨o, e, r⟩ := at_src1; ⟨o, same n2.symm e, r⟩
  have ty := Heap.IsRevIter.typeIs (s := { z with heap := (z.heap.push { cls := .type "list", data := .seq #[] }).update S (Obj.mapSeq fun _ => #[]) }) at_it2
  have other : Builtin.List.listSameRef (.ref S) (.ref it) = false := by simp [Builtin.List.listSameRef, n1]
  unfold Builtin.List.listExtendWith; refine wpAny_bind (wpAny_typeOf ty ?_); rw [if_neg (by rw [other]; decide)]
  refine wpAny_bind (wpAny_pyIter_revIter (s := { z with heap := (z.heap.push { cls := .type "list", data := .seq #[] }).update S (Obj.mapSeq fun _ => #[]) }) at_it2 (wpAny_bind (wpAny_holding ?_)))
  unfold Builtin.List.listLengthHint; refine wpAny_bind (wpAny_specialOf ty nolen_lri (wpAny_bind (m := specialOf (.ref it) (Str.ofString "__length_hint__")) (wpAny_specialOf ty hint_lri ?_)))
  generalize idd : ("list_reverseiterator.__length_hint__" : String) = hint
  wp_delta
  have cut : splitId hint = some ("list_reverseiterator", "__length_hint__") := by subst idd; decide +kernel
  rw [cut]; subst idd
  refine wpAny_bind (wpAny_isInstance (b := true) ty (by rw [isSubtype_type]; kernel_rfl) (wpAny_pure ?_)); rw [if_neg (by decide)]
  have walks := (Walks.listRev (prog := P) (w := w) (A := B.in1.in1) calm it src apart vs).toS
  have out : S ∉ [it, src] := fun m => by simp only [List.mem_cons, List.not_mem_nil, or_false] at m; exact m.elim n1 n2
  have top : (vs.size : Int) - 1 - ((0 : Nat) : Int) = (vs.size : Int) - 1 := by omega
  refine wpAny_pure ⟨plainId_quiet F.plain_extend_loop _, codeAny_extend_loopS walks small S out Value.none vs.size 0 _ #[] _ rfl (Nat.zero_le _) ⟨Nat.zero_le _, by rw [top]; exact at_it2, at_src2⟩ new1 (ItemsOf.nil _) ?_⟩
  intro q got c moved stands items
  rw [moved.eq_with]
  refine ⟨rfl, goal q.heap q.toks got c (fun b o nb e => moved.heap b o (fun m => ?_) (same ?_ (Heap.get?_push_of_some _ e))) stands items⟩
  · exact (List.mem_cons.mp m).elim (fun x => Nat.ne_of_lt (Heap.lt_size e) (x.trans hz.symm)) fun x => nb (List.mem_singleton.mp x)
  · exact fun x => Nat.ne_of_lt (Heap.lt_size e) (x.trans hz.symm)
/-- list(reversed(x)): x a list, what comes a new one -/
def tLstRev (K : PySem.W.Frag) (te : TE) : TE := fun σ H Q => te σ H fun v H1 => ∃ (a : Addr) (xs : List V), v = .ref a ∧ SqL K H1 a xs ∧ ∀ q, H1 q = none → Q (.ref q) (upd H1 q (.lst xs.reverse))
theorem pe_lstRev {X : Cx} {e : Expr} {te : TE} {p p2 pos pos2 : Pos} (calm : X.calm = true) (g1 : Gl X "list") (m1 : X.mg "list" = none) (g2 : Gl X "reversed") (m2 : X.mg "reversed" = none) (he : PE X e te)
    (one : starEach [e] X.env = [(false, eval e X.env)] := by rfl) (two : starEach [.Call (.Name "reversed" p2) [e] [] pos2] X.env = [(false, eval (.Call (.Name "reversed" p2) [e] [] pos2) X.env)] := by rfl) :
    PE X (.Call (.Name "list" p) [.Call (.Name "reversed" p2) [e] [] pos2] [] pos) (tLstRev X.K te) := by
  constructor
  intro pins s σ H Q I reading
  refine Call_ (ld_blt I g1 m1 PyProof.Rows.boot_list (PyProof.Rows.callWith_type1 (args_cons (Call_ ?_) two) two rfl))
  refine ld_blt I g2 m2 PyProof.Rows.boot_reversed (PyProof.Rows.callWith_type1 (args_cons (thn (he.run pins s σ H _ I reading) ?_) one) one rfl)
  rintro v z ⟨_, J, IJ, rv, src, xs, rfl, seq, rest⟩
  obtain rfl : v = Value.ref src := rv
  obtain ⟨us, rel, stands, small⟩ := IJ.list seq
  refine args_nil (call_reversed_list stands.isList (args_nil ?_))
  have small' : us.toArray.size ≤ sizeLine := by have e := rel.length; simp only [List.size_toArray]; omega
  have isl := stands.isList.push (revObj src ((us.toArray.size : Int) - 1))
  have grown := IJ.kept (h' := z.heap.push (revObj src ((us.toArray.size : Int) - 1))) (t' := z.toks) fun _ _ x => Heap.get?_push_of_some _ x
  have free1 := IJ.fpOk (Nat.le_refl _) (IJ.hok.fresh (Nat.le_refl z.heap.objs.size))
  have apart : src ≠ z.heap.objs.size := let ⟨_, x, _⟩ := id stands.isList; Nat.ne_of_lt (Heap.lt_size x)
  have iter : (z.heap.push (revObj src ((us.toArray.size : Int) - 1))).IsRevIter z.heap.objs.size src ((us.toArray.size : Int) - 1) := ⟨_, Heap.get?_push_size _ rfl, rfl, rfl⟩
  generalize hh : z.heap.push (revObj src ((us.toArray.size : Int) - 1)) = h1 at *
  have none2 := grown.hok.fresh (Nat.le_refl h1.objs.size)
  have free2 := grown.fpOk (Nat.le_refl _) none2
  refine list_of_down (z := { z with heap := h1 }) (IJ.ok.hd calm) small' iter isl apart fun g tk got c kept made items => ?_
  have noIt : ∀ {b : Addr} {u : HO}, J b = some u → b ≠ z.heap.objs.size := fun e x => by rw [x, free1.1] at e; cases e
  have old : ∀ {b : Addr} {u : HO}, J b = some u → b ≠ h1.objs.size := fun e => ne_of_none e none2
  have held : HOk X.prog X.w (upd J h1.objs.size (.lst xs.reverse)) g := by
    intro b u e
    by_cases eb : b = h1.objs.size
    · subst eb
      rw [upd_same] at e; cases e
      exact ⟨Nat.le_trans (Nat.le_of_eq List.length_reverse) small, got.toList, c, vals_rev rel items, by simpa using made⟩
    · rw [upd_ne eb] at e
      exact (grown.hok b u e).stay (fun d v at_ q => kept d v (at_.elim (fun x => x ▸ noIt e) fun x => noIt x) q) (fun d q => (upd_ne (old q)).trans q) fun d ys q => (upd_ne (old q)).trans q
  have changed : ∀ {b : Addr}, b ∉ [z.heap.objs.size, h1.objs.size] → b ≠ z.heap.objs.size ∧ b ≠ h1.objs.size := fun n => ⟨fun x => n (by simp [x]), fun x => n (by simp [x])⟩
  refine ⟨.ref h1.objs.size, upd J h1.objs.size (.lst xs.reverse), grown.step (ch := [z.heap.objs.size, h1.objs.size]) (g' := z.gens) (d' := z.drawn) (t' := tk) ?_ (fun b o _ _ n e _ => kept b o (changed n).1 e) (fun b o _ _ n e _ => ⟨_, kept b o (changed n).1 e⟩)
    (fun b o n _ e => (upd_ne (changed n).2).trans e) (fun b o n e => ⟨o, kept b o (changed n).1 e⟩) (fun b ys e => (upd_ne (old e)).trans e) (fun b o u e => (upd_ne (old e)).trans e) (fun b ps e => ⟨#[], by rw [upd_ne (old e), e, Array.append_empty]⟩) ?_ held IJ.bare, rfl, rest _ none2⟩
  · intro b m
    rcases (by simpa using m : b = z.heap.objs.size ∨ b = h1.objs.size) with rfl | rfl
    · exact ⟨free1.2.2.2.1, free1.2.1, free1.2.2.2.2⟩
    · exact ⟨free2.2.2.2.1, free2.2.1, free2.2.2.2.2⟩
  · rintro m ⟨o, es, ep, e, r⟩
    exact ⟨o, es, ep, kept _ o (Ne.symm free1.2.1) e, r⟩
end Ak
/-! What all the laws' proofs share: a def as the top left it; the box of draws (a dict with a seed, a number, a list of numbers left). -/
namespace Ak
open PySem L2

/-- a def of the top, called by its name -/
structure Fn (K : PySem.W.Frag) (mg : Str → Option Value) (nm : Str) (st : Stmt) (ps : List Str) (f : Addr) (fd : FuncData) : Prop where
  mg : mg nm = some (.ref f)
  kp : PySem.W.keepIn K (.ref f) = true
  F : Fun K nm nm st f fd
  b : Binds K fd ps []

/-! ### the box of draws -/
theorem kSN : ¬ ((Sum.inr ("seed" : Str) : Key) = Sum.inr ("number" : Str)) := by decide +kernel
theorem kSL : ¬ ((Sum.inr ("seed" : Str) : Key) = Sum.inr ("left" : Str)) := by decide +kernel
theorem kNL : ¬ ((Sum.inr ("number" : Str) : Key) = Sum.inr ("left" : Str)) := by decide +kernel
theorem kNS : ¬ ((Sum.inr ("number" : Str) : Key) = Sum.inr ("seed" : Str)) := by decide +kernel
theorem kLS : ¬ ((Sum.inr ("left" : Str) : Key) = Sum.inr ("seed" : Str)) := by decide +kernel
theorem kLN : ¬ ((Sum.inr ("left" : Str) : Key) = Sum.inr ("number" : Str)) := by decide +kernel
def dealL (s n : Int) (l : Addr) : List (Key × V) := [(Sum.inr ("seed" : Str), .int s), (Sum.inr ("number" : Str), .int n), (Sum.inr ("left" : Str), .ref l)]
theorem deal_seed (s n : Int) (l : Addr) : valV (dealL s n l) (Sum.inr ("seed" : Str)) = some (.int s) := valV_pos rfl
theorem deal_number (s n : Int) (l : Addr) : valV (dealL s n l) (Sum.inr ("number" : Str)) = some (.int n) := (valV_neg kSN).trans (valV_pos rfl)
theorem deal_left (s n : Int) (l : Addr) : valV (dealL s n l) (Sum.inr ("left" : Str)) = some (.ref l) := (valV_neg kSL).trans ((valV_neg kNL).trans (valV_pos rfl))
theorem deal_puts (s n x : Int) (l : Addr) : putK (dealL s n l) (Sum.inr ("seed" : Str)) (.int x) = dealL x n l := by
  have e1 := decide_eq_false kNS
  have e2 := decide_eq_false kLS
  unfold putK dealL
  rw [if_pos (by simp)]
  simp only [List.map_cons, List.map_nil, if_pos, if_neg kNS, if_neg kLS]
theorem deal_putn (s n x : Int) (l : Addr) : putK (dealL s n l) (Sum.inr ("number" : Str)) (.int x) = dealL s x l := by
  unfold putK dealL
  rw [if_pos (by simp)]
  simp only [List.map_cons, List.map_nil, if_pos, if_neg kSN, if_neg kLN]

theorem deal_gs {H : Hp} {d l : Addr} {s n : Int} (e : H d = some (.dK (dealL s n l))) : DGet H d (.str ("seed" : Str)) (some (.int s)) := by
  rw [← deal_seed s n l]; exact DGet.k (k := Sum.inr ("seed" : Str)) e
theorem deal_gn {H : Hp} {d l : Addr} {s n : Int} (e : H d = some (.dK (dealL s n l))) : DGet H d (.str ("number" : Str)) (some (.int n)) := by
  rw [← deal_number s n l]; exact DGet.k (k := Sum.inr ("number" : Str)) e
theorem deal_gl {H : Hp} {d l : Addr} {s n : Int} (e : H d = some (.dK (dealL s n l))) : DGet H d (.str ("left" : Str)) (some (.ref l)) := by
  rw [← deal_left s n l]; exact DGet.k (k := Sum.inr ("left" : Str)) e
theorem deal_ps {H : Hp} {d l : Addr} {s n : Int} (x : Int) (e : H d = some (.dK (dealL s n l))) : DPut H d (.str ("seed" : Str)) (.int x) (upd H d (.dK (dealL x n l))) := by
  rw [← deal_puts s n x l]; exact DPut.k (k := Sum.inr ("seed" : Str)) e (by show 3 < sizeLine; decide)
theorem deal_pn {H : Hp} {d l : Addr} {s n : Int} (x : Int) (e : H d = some (.dK (dealL s n l))) : DPut H d (.str ("number" : Str)) (.int x) (upd H d (.dK (dealL s x l))) := by
  rw [← deal_putn s n x l]; exact DPut.k (k := Sum.inr ("number" : Str)) e (by show 3 < sizeLine; decide)

theorem deal_merge (s n : Int) (l : Addr) : mergeK ([] : List (Key × V)) (dealL s n l) = dealL s n l := by
  show putK (putK (putK [] (Sum.inr ("seed" : Str)) (.int s)) (Sum.inr ("number" : Str)) (.int n)) (Sum.inr ("left" : Str)) (.ref l) = dealL s n l
  rw [putK_new (kvs := []) _ rfl, putK_new (kvs := [] ++ [(Sum.inr ("seed" : Str), V.int s)]) _ ((valV_neg kSN).trans rfl), putK_new (kvs := [] ++ [(Sum.inr ("seed" : Str), V.int s)] ++ [(Sum.inr ("number" : Str), V.int n)]) _ ((valV_neg kSL).trans ((valV_neg kNL).trans rfl))]
  rfl
def ab (x : Int) : Int := if 0 - x > x then 0 - x else x
theorem ab_nonneg (x : Int) : 0 ≤ ab x := by unfold ab; split <;> omega

/-- a comprehension's turn without a test -/
theorem lc_yes {A B : Hp → Prop} {σ : L2.St} {H : Hp} (h : A H) : tYes σ H (fun b H3 => if b = true then A H3 else B H3) := by
  show (if true = true then A H else B H)
  rw [if_pos rfl]
  exact h

/-! ### tests that change nothing: p is what they decide -/
def Dec (t : TT) (σ : L2.St) (H : Hp) (p : Prop) : Prop := ∀ Q : Bool → Hp → Prop, (p → Q true H) → (¬ p → Q false H) → t σ H Q
theorem dec_and {t u : TT} {σ : L2.St} {H : Hp} {p q : Prop} (h1 : Dec t σ H p) (h2 : p → Dec u σ H q) : Dec (tAnd t u) σ H (p ∧ q) := fun Q a b => h1 _ (fun hp => by
  show u σ H Q
  exact h2 hp Q (fun hq => a ⟨hp, hq⟩) fun hq => b fun z => hq z.2) fun hp => by
  show Q false H
  exact b fun z => hp z.1
theorem dec_or {t u : TT} {σ : L2.St} {H : Hp} {p q : Prop} (h1 : Dec t σ H p) (h2 : ¬ p → Dec u σ H q) : Dec (tOr t u) σ H (p ∨ q) := fun Q a b => h1 _ (fun hp => by
  show Q true H
  exact a (.inl hp)) fun hp => by
  show u σ H Q
  exact h2 hp Q (fun hq => a (.inr hq)) fun hq => b fun z => z.elim hp hq
theorem dec_not {t : TT} {σ : L2.St} {H : Hp} {p : Prop} (h1 : Dec t σ H p) : Dec (tNot t) σ H (¬ p) := fun Q a b => h1 _ (fun hp => b fun z => z hp) a
/-- a test is the value of an expression -/
theorem dec_of {te : TE} {σ : L2.St} {H : Hp} {p : Prop} [Decidable p] (h : ∀ Q : VK, Q (.bl (decide p)) H → te σ H Q) : Dec (tTest te) σ H p := fun Q a b => h _ ⟨_, rfl, by
  by_cases hp : p
  · rw [decide_eq_true hp]; exact a hp
  · rw [decide_eq_false hp]; exact b hp⟩
theorem dec_if {t : TT} {u v : TS} {D : Ends} {σ : L2.St} {H : Hp} {p : Prop} (h : Dec t σ H p) (h1 : p → u D σ H) (h2 : ¬ p → v D σ H) : tIfS t u v D σ H := h _ (fun hp => iteT (h1 hp)) fun hp => iteF (h2 hp)
theorem Dec.iff {t : TT} {σ : L2.St} {H : Hp} {p q : Prop} (h : Dec t σ H p) (e : p ↔ q) : Dec t σ H q := fun Q a b => h Q (fun x => a (e.mp x)) fun x => b fun y => x (e.mpr y)

/-- the box stands at d, its list at l -/
def DealAt (H : Hp) (d l : Addr) : Prop := ∃ (s n : Int) (left : List Int), 0 ≤ s ∧ s < 2147483647 ∧ 0 ≤ n ∧ (∀ x ∈ left, 0 ≤ x) ∧ H d = some (.dK (dealL s n l)) ∧ H l = some (.lst (left.map V.int))
theorem DealAt.ne {H : Hp} {d l : Addr} (h : DealAt H d l) : d ≠ l := by
  obtain ⟨s, n, left, _, _, _, _, h1, h2⟩ := h
  exact ne_of h1 h2 (by intro z; cases z)
/-- all that is tracked stands as it stood, but for the box -/
def Kp (d l : Addr) (H H' : Hp) : Prop := ∀ b o, H b = some o → b ≠ d → b ≠ l → H' b = some o
theorem Kp.refl (d l : Addr) (H : Hp) : Kp d l H H := fun _ _ e _ _ => e
theorem Kp.trans {d l : Addr} {H H1 H2 : Hp} (a : Kp d l H H1) (b : Kp d l H1 H2) : Kp d l H H2 := fun c o e h1 h2 => b c o (a c o e h1 h2) h1 h2
theorem Kp.same {d l : Addr} {H H' : Hp} (a : Same H H') : Kp d l H H' := fun c o e _ _ => a c o e
theorem Same.new {H : Hp} {p : Addr} {o : HO} (h : H p = none) : Same H (upd H p o) := fun b u e => by rw [upd_ne (ne_of_none e h)]; exact e
theorem DealAt.same {H H' : Hp} {d l : Addr} (h : DealAt H d l) (a : Same H H') : DealAt H' d l := by
  obtain ⟨s, n, left, h1, h2, h3, h4, h5, h6⟩ := h
  exact ⟨s, n, left, h1, h2, h3, h4, a _ _ h5, a _ _ h6⟩
theorem DealAt.not {H : Hp} {d l p : Addr} {o : HO} (h : DealAt H d l) (e : H p = some o) (n1 : ∀ kvs, o ≠ .dK kvs) (n2 : ∀ xs, o ≠ .lst xs) : p ≠ d ∧ p ≠ l := by
  obtain ⟨s, n, left, _, _, _, _, h1, h2⟩ := h
  exact ⟨ne_of e h1 (n1 _), ne_of e h2 (n2 _)⟩
theorem DealAt.new {H : Hp} {d l p : Addr} (h : DealAt H d l) (e : H p = none) : p ≠ d ∧ p ≠ l := by
  obtain ⟨s, n, left, _, _, _, _, h1, h2⟩ := h
  exact ⟨(ne_of_none h1 e).symm, (ne_of_none h2 e).symm⟩
theorem DealAt.upd {H : Hp} {d l p : Addr} {o : HO} (h : DealAt H d l) (n : p ≠ d ∧ p ≠ l) : DealAt (upd H p o) d l := by
  obtain ⟨s, m, left, h1, h2, h3, h4, h5, h6⟩ := h
  exact ⟨s, m, left, h1, h2, h3, h4, by rw [upd_ne n.1.symm]; exact h5, by rw [upd_ne n.2.symm]; exact h6⟩
/-- what is new may change -/
theorem Kp.mut {d l p : Addr} {H H1 H2 : Hp} {o : HO} (a : Kp d l H H1) (b : Kp d l H H2) (n : H1 p = none) : Kp d l H (L2.upd H2 p o) := fun c u e h1 h2 => by
  rw [upd_ne (ne_of_none (a c u e h1 h2) n)]
  exact b c u e h1 h2
/-- a draw: any number from 0 to n - 1 -/
def spDraw : Sp := fun vs H Q _ => ∃ (d l : Addr) (n : Int), vs = [.ref d, .int n] ∧ DealAt H d l ∧ 1 ≤ n ∧ n < 1073741824 ∧
  ∀ (r : Int) (H' : Hp), 0 ≤ r → r < n → DealAt H' d l → Kp d l H H' → Q (.int r) H'
/-- the box made of a script -/
def spDeal (K : PySem.W.Frag) : Sp := fun vs H Q _ => ∃ (a : Addr) (ns : List Int) (b : Int), vs = [.ref a, .int b] ∧ SqL K H a (ns.map V.int) ∧ ns.length ≤ 100 ∧ 0 ≤ b ∧ b ≤ 63 ∧
  ∀ (d l : Addr) (H' : Hp), H d = none → H l = none → DealAt H' d l → Same H H' → Q (.ref d) H'
end Ak
/-! texts: a loop, a comprehension over a text's signs; a new object -/
namespace Ak
open PySem L2
/-- a loop over a text's signs; a comprehension over them -/
def for_sign {x : Str} {g : TG} {tb : TS} {D : Ends} {σ : L2.St} {H : Hp} (Pv : Nat → L2.St → Hp → Prop) (h0 : Pv 0 σ H)
    (hs : ∀ (i c : Nat) (τ : L2.St) (J : Hp), x.cps[i]? = some c → Pv i τ J → g (.str ⟨#[c]⟩) τ J (tb { D with nx := Pv (i + 1), ct := Pv (i + 1), bk := D.nx })) (hd : ∀ τ J, Pv x.cps.size τ J → D.nx τ J) :=
  for_it (walk_str (z := x)) Pv h0 (fun _ _ _ _ _ => True.intro) (fun i v τ J J' _ p y => by obtain ⟨rfl, c, hc, rfl⟩ := y; exact hs i c τ _ hc p) hd
def lc_sign {x : Str} {g : TG} {tt : TT} {te : TE} {vs : List Nat} {σ : L2.St} {H1 : Hp} {D : Addr} {Qd : Hp → Prop} (Pv : Nat → Hp → Prop) (h0 : Pv 0 (upd H1 D (.lst [])))
    (hs : ∀ (i c : Nat) (J : Hp), x.cps[i]? = some c → Pv i J → g (.str ⟨#[c]⟩) (wipe σ vs) J fun τ J2 => wipe τ vs = wipe σ vs ∧ tt τ J2 fun b J3 => if b = true then te τ J3 fun y J4 => ∃ got, J4 D = some (.lst got) ∧ got.length < sizeLine ∧ Pv (i + 1) (upd J4 D (.lst (got ++ [y]))) else Pv (i + 1) J3)
    (hd : ∀ J, Pv x.cps.size J → Qd J) :=
  lc_it (walk_str (z := x)) (g := g) (tt := tt) (te := te) (vs := vs) (σ := σ) Pv h0 (fun _ _ _ _ => True.intro) (fun i v J J' _ p y => by obtain ⟨rfl, c, hc, rfl⟩ := y; exact hs i c _ hc p) hd
theorem atI_in {α : Type} {xs : List α} {i : Int} (h0 : 0 ≤ i) (h1 : i < (xs.length : Int)) : ∃ v, atI xs i = some v ∧ v ∈ xs := by
  obtain ⟨j, rfl⟩ : ∃ j : Nat, i = (j : Int) := ⟨i.toNat, by omega⟩
  have hj : j < xs.length := by omega
  exact ⟨xs[j], atI_nat (List.getElem?_eq_getElem hj), List.getElem_mem hj⟩
theorem cutS_le (z : Str) (lo hi : Option Int) : (cutS z lo hi).length ≤ z.length := by
  show (cutS z lo hi).cps.size ≤ z.cps.size
  rw [← Array.length_toList, ← Array.length_toList]
  unfold cutS
  rw [List.length_take, List.length_drop]
  omega
theorem add_len (a b : Str) : (a ++ b).length = a.length + b.length := by
  show (a.cps ++ b.cps).size = a.cps.size + b.cps.size
  exact Array.size_append
theorem join_len : ∀ ys : List Str, (Str.join Str.empty ys).length = (ys.map (·.length)).sum
  | [] => rfl
  | [x] => by
    show x.length = _
    simp
  | x :: y :: r => by
    show ((x ++ Str.empty) ++ Str.join Str.empty (y :: r)).length = _
    rw [add_len, add_len, join_len (y :: r)]
    show x.length + 0 + _ = _
    simp
theorem sum_ones {ys : List Str} (h : ∀ y ∈ ys, y.length = 1) : (ys.map (·.length)).sum = ys.length := by
  induction ys with
  | nil => rfl
  | cons a r ih =>
    rw [List.map_cons, List.sum_cons, h a (by simp), ih fun y hy => h y (by simp [hy]), List.length_cons]
    omega
/-- all signs of t are in s -/
def onlyOf (t s : Str) : Bool := t.cps.toList.all fun c => decide (c ∈ s.cps.toList)
def spOnly : Sp := fun vs H Q _ => ∃ t s : Str, vs = [.str t, .str s] ∧ t.length ≤ 1000 ∧ ∀ H', Same H H' → Q (.bl (onlyOf t s)) H'
/-- a text in, a truth out -/
def spB (g : Str → Bool) : Sp := fun vs H Q _ => ∃ t : Str, vs = [.str t] ∧ t.length ≤ 1000 ∧ ∀ H', Same H H' → Q (.bl (g t)) H'
end Ak
/-! names and figures -/
namespace Ak
open PySem L2 TL
def lets : Str := "abcdefghijklmnopqrstuvwxyz"
def figs : Str := "0123456789"
def NNs : List Str := ["ask", "keeper", "def", "to", "note", "takes", "gives", "hears", "let", "be", "call", "keep", "go", "give", "tell", "if", "else", "case", "none", "more", "end", "empty", "put", "last", "num", "nums", "hold", "holds"]
def isName (t : Str) : Bool := (decide (1 ≤ t.length) && decide (t.length ≤ 8)) && (onlyOf t lets && !inV (.str t) (NNs.map V.str))
def isFigs (t : Str) : Bool := (decide (1 ≤ t.length) && decide (t.length ≤ 9)) && (onlyOf t figs && (decide (V.str t = .str "0") || !decide (V.str ⟨#[t.cps[0]?.getD 0]⟩ = .str "0")))
theorem len_sz {t : Str} (h : t.length ≤ 1000) : t.length ≤ sizeLine := Nat.le_of_lt (small1000 h)
theorem sz1000 {n : Nat} (h : n ≤ 1000) : n ≤ sizeLine := Nat.le_of_lt (small1000 h)
theorem nn_flat : (NNs.map V.str).all flatV = true := by decide +kernel
theorem lets_tl : lets.cps.toList = [97, 98, 99, 100, 101, 102, 103, 104, 105, 106, 107, 108, 109, 110, 111, 112, 113, 114, 115, 116, 117, 118, 119, 120, 121, 122] := by decide +kernel
theorem figs_tl : figs.cps.toList = [48, 49, 50, 51, 52, 53, 54, 55, 56, 57] := by decide +kernel
theorem mem_lets {c : Nat} : c ∈ lets.cps.toList ↔ 97 ≤ c ∧ c ≤ 122 := by
  rw [lets_tl]; simp only [List.mem_cons, List.not_mem_nil, or_false]; omega
theorem mem_figs {c : Nat} : c ∈ figs.cps.toList ↔ 48 ≤ c ∧ c ≤ 57 := by
  rw [figs_tl]; simp only [List.mem_cons, List.not_mem_nil, or_false]; omega
theorem name_parts {t : Str} (h : isName t = true) : 1 ≤ t.length ∧ t.length ≤ 8 ∧ (∀ c ∈ t.cps.toList, 97 ≤ c ∧ c ≤ 122) ∧ inV (.str t) (NNs.map V.str) = false := by
  unfold isName at h
  simp only [Bool.and_eq_true, decide_eq_true_eq, Bool.not_eq_true'] at h
  obtain ⟨⟨a, b⟩, c, d⟩ := h
  refine ⟨a, b, fun x hx => ?_, d⟩
  unfold onlyOf at c
  exact mem_lets.mp (of_decide_eq_true (List.all_eq_true.mp c x hx))
theorem name_not_figs {t : Str} (h : isName t = true) : isFigs t = false := by
  obtain ⟨a, _, b, _⟩ := name_parts h
  have e : onlyOf t figs = false := by
    unfold onlyOf
    rw [List.all_eq_false]
    have hz : 0 < t.cps.toList.length := by rw [Array.length_toList]; exact a
    refine ⟨t.cps.toList[0], List.getElem_mem hz, ?_⟩
    have q := b _ (List.getElem_mem hz)
    rw [decide_eq_true_eq, mem_figs]
    omega
  unfold isFigs
  rw [e, Bool.false_and, Bool.and_false]
/-- a number as texts write it -/
def fig (n : Int) : Str := Str.ofString (toString n)
theorem fig_tl (n : Nat) : (fig (n : Int)).cps.toList = numL n := tl_num n
theorem numL_hd : ∀ n : Nat, 0 < n → ∃ c r, numL n = c :: r ∧ 49 ≤ c ∧ c ≤ 57 := by
  intro n
  induction n using Nat.strongRecOn with
  | _ n ih =>
    intro h
    by_cases hn : n < 10
    · exact ⟨48 + n, [], by rw [numL_lt hn], by omega, by omega⟩
    · obtain ⟨c, r, e, h1, h2⟩ := ih (n / 10) (by omega) (by omega)
      exact ⟨c, r ++ [48 + n % 10], by rw [numL_step (by omega), e]; rfl, h1, h2⟩
theorem fig_ok {n : Int} (h0 : 0 ≤ n) (h1 : n ≤ 999999999) : isFigs (fig n) = true ∧ (fig n).length ≤ 9 := by
  obtain ⟨m, rfl⟩ := Int.eq_ofNat_of_zero_le h0
  have hl : (fig (m : Int)).length = (numL m).length := by
    show (fig (m : Int)).cps.size = _
    rw [← Array.length_toList, fig_tl]
  have l9 : (numL m).length ≤ 9 := numL_len (by decide) (by omega)
  have l1 : 1 ≤ (numL m).length := by
    have := numL_ne m
    cases e : numL m with
    | nil => exact absurd e this
    | cons c r => simp
  have on : onlyOf (fig (m : Int)) figs = true := by
    unfold onlyOf
    rw [List.all_eq_true]
    intro c hc
    rw [fig_tl] at hc
    exact decide_eq_true (mem_figs.mpr (numL_digits m c hc))
  refine ⟨?_, by rw [hl]; exact l9⟩
  unfold isFigs
  rw [on, decide_eq_true (show 1 ≤ (fig (m : Int)).length by rw [hl]; exact l1), decide_eq_true (show (fig (m : Int)).length ≤ 9 by rw [hl]; exact l9)]
  by_cases hm : m = 0
  · have e : decide (V.str (fig ((m : Nat) : Int)) = .str "0") = true := by rw [hm]; decide +kernel
    rw [e]; rfl
  · obtain ⟨c, r, e, c1, c2⟩ := numL_hd m (by omega)
    have g : (fig (m : Int)).cps[0]? = some c := by rw [← Array.getElem?_toList, fig_tl, e]; rfl
    rw [g]
    have e2 : decide (V.str (⟨#[c]⟩ : Str) = .str "0") = false := decide_eq_false fun z => by
      have hz : ("0" : Str) = ⟨#[48]⟩ := by decide +kernel
      rw [hz] at z
      injection z with z
      injection z with z
      have : c = 48 := by simpa using z
      omega
    rw [Option.getD_some, e2]
    simp
/-- a word's signs are neither a blank nor a line feed, and there is one -/
def Clean (w : Str) : Prop := 1 ≤ w.length ∧ w.length ≤ 9 ∧ 32 ∉ w.cps.toList ∧ 10 ∉ w.cps.toList
theorem name_clean {t : Str} (h : isName t = true) : Clean t := by
  obtain ⟨a, b, c, _⟩ := name_parts h
  exact ⟨a, by omega, fun z => by have := c _ z; omega, fun z => by have := c _ z; omega⟩
theorem fig_clean {n : Int} (h0 : 0 ≤ n) (h1 : n ≤ 999999999) : Clean (fig n) := by
  obtain ⟨f1, f2⟩ := fig_ok h0 h1
  obtain ⟨m, rfl⟩ := Int.eq_ofNat_of_zero_le h0
  refine ⟨?_, f2, ?_, ?_⟩
  · unfold isFigs at f1
    simp only [Bool.and_eq_true, decide_eq_true_eq] at f1
    exact f1.1.1
  · rw [fig_tl]; exact numL_free (by omega)
  · rw [fig_tl]; exact numL_free (by omega)
end Ak
/-! Programs as data: what a heap holds of them, their words, the heads that a reader gathers. -/
namespace Ak
open PySem L2

/-! ### data: numbers, texts, tuples of such -/
inductive D where
  | i (n : Int) | s (x : Str) | t (ds : List D)
mutual
def Rep (H : Hp) : D → V → Prop
  | .i n, v => v = .int n
  | .s x, v => v = .str x
  | .t ds, v => ∃ p vs, v = .ref p ∧ H p = some (.tup vs) ∧ Reps H ds vs
def Reps (H : Hp) : List D → List V → Prop
  | [], vs => vs = []
  | d :: ds, vs => ∃ v r, vs = v :: r ∧ Rep H d v ∧ Reps H ds r
end
/-- tuples stand for ever -/
def TupK (H H' : Hp) : Prop := ∀ p vs, H p = some (.tup vs) → H' p = some (.tup vs)
theorem TupK.refl (H : Hp) : TupK H H := fun _ _ e => e
theorem TupK.trans {H H1 H2 : Hp} (a : TupK H H1) (b : TupK H1 H2) : TupK H H2 := fun p vs e => b p vs (a p vs e)
theorem TupK.same {H H' : Hp} (a : Same H H') : TupK H H' := fun p vs e => a p _ e
theorem TupK.kp {d l : Addr} {H H' : Hp} (h : DealAt H d l) (a : Kp d l H H') : TupK H H' := fun p vs e => by
  have n := h.not e (fun _ z => nomatch z) (fun _ z => nomatch z)
  exact a p _ e n.1 n.2
mutual
theorem Rep.mono {H H' : Hp} (k : TupK H H') : ∀ {d : D} {v : V}, Rep H d v → Rep H' d v
  | .i n, v, h => h
  | .s x, v, h => h
  | .t ds, v, h => by
    obtain ⟨p, vs, e, hp, r⟩ := h
    exact ⟨p, vs, e, k p vs hp, Reps.mono k r⟩
theorem Reps.mono {H H' : Hp} (k : TupK H H') : ∀ {ds : List D} {vs : List V}, Reps H ds vs → Reps H' ds vs
  | [], vs, h => h
  | d :: ds, vs, h => by
    obtain ⟨v, r, e, h1, h2⟩ := h
    exact ⟨v, r, e, Rep.mono k h1, Reps.mono k h2⟩
end
theorem Reps.nil {H : Hp} : Reps H [] [] := rfl
theorem Reps.cons {H : Hp} {d : D} {ds : List D} {v : V} {vs : List V} (a : Rep H d v) (b : Reps H ds vs) : Reps H (d :: ds) (v :: vs) := ⟨v, vs, rfl, a, b⟩
theorem Reps.append {H : Hp} : ∀ {as bs : List D} {us vs : List V}, Reps H as us → Reps H bs vs → Reps H (as ++ bs) (us ++ vs)
  | [], _, _, _, h, g => by
    have e : _ = [] := h
    rw [e]; exact g
  | d :: ds, bs, us, vs, h, g => by
    obtain ⟨v, r, rfl, h1, h2⟩ := h
    exact Reps.cons h1 (Reps.append h2 g)
theorem Reps.len {H : Hp} : ∀ {ds : List D} {vs : List V}, Reps H ds vs → vs.length = ds.length
  | [], vs, h => by
    have e : vs = [] := h
    rw [e]; rfl
  | d :: ds, vs, h => by
    obtain ⟨v, r, rfl, h1, h2⟩ := h
    rw [List.length_cons, List.length_cons, Reps.len h2]
theorem Reps.get {H : Hp} : ∀ {ds : List D} {vs : List V} {j : Nat} {d : D}, Reps H ds vs → ds[j]? = some d → ∃ v, vs[j]? = some v ∧ Rep H d v
  | [], _, _, _, _, e => by simp at e
  | d :: ds, vs, 0, d', h, e => by
    obtain ⟨v, r, rfl, h1, h2⟩ := h
    have q : d = d' := by simpa using e
    exact ⟨v, rfl, q ▸ h1⟩
  | d :: ds, vs, j + 1, d', h, e => by
    obtain ⟨v, r, rfl, h1, h2⟩ := h
    exact Reps.get (j := j) h2 (by simpa using e)
theorem Reps.set {H : Hp} {d : D} {v : V} (a : Rep H d v) : ∀ {ds : List D} {vs : List V} (j : Nat), Reps H ds vs → Reps H (ds.set j d) (vs.set j v)
  | [], vs, j, h => by
    have e : vs = [] := h
    subst e
    exact h
  | x :: ds, vs, 0, h => by
    obtain ⟨y, r, rfl, h1, h2⟩ := h
    exact Reps.cons a h2
  | x :: ds, vs, j + 1, h => by
    obtain ⟨y, r, rfl, h1, h2⟩ := h
    exact Reps.cons h1 (Reps.set a j h2)
theorem Reps.snoc {H : Hp} {ds : List D} {d : D} {vs : List V} (h : Reps H (ds ++ [d]) vs) : ∃ us v, vs = us ++ [v] ∧ Reps H ds us ∧ Rep H d v := by
  induction ds generalizing vs with
  | nil =>
    obtain ⟨v, r, rfl, h1, h2⟩ := h
    have e : r = [] := h2
    exact ⟨[], v, by rw [e]; rfl, rfl, h1⟩
  | cons x ds ih =>
    obtain ⟨v, r, rfl, h1, h2⟩ := h
    obtain ⟨us, w, rfl, g1, g2⟩ := ih h2
    exact ⟨v :: us, w, rfl, Reps.cons h1 g1, g2⟩
theorem Rep.tup {H : Hp} {ds : List D} {p : Addr} {vs : List V} (e : H p = some (.tup vs)) (r : Reps H ds vs) : Rep H (.t ds) (.ref p) := ⟨p, vs, rfl, e, r⟩
/-- a new tuple of things that stand -/
theorem Rep.new {H : Hp} {ds : List D} {p : Addr} {vs : List V} (n : H p = none) (r : Reps H ds vs) : Rep (upd H p (.tup vs)) (.t ds) (.ref p) :=
  ⟨p, vs, rfl, upd_same, r.mono (TupK.same (Same.new n))⟩

/-! ### atoms, kinds, bodies -/
inductive Atom where
  | nm (x : Str) | nu (n : Int)
def Atom.d : Atom → D | .nm x => .s x | .nu n => .i n
def Atom.v : Atom → V | .nm x => .str x | .nu n => .int n
def Atom.w : Atom → Str | .nm x => x | .nu n => fig n
theorem Atom.rep {H : Hp} (a : Atom) : Rep H a.d a.v := by cases a <;> rfl
inductive Kd where
  | num | nums | hold (k q : Str) | holds (k q : Str)
def Kd.w : Kd → List Str | .num => ["num"] | .nums => ["nums"] | .hold k q => ["hold", k, q] | .holds k q => ["holds", k, q]
def Kd.d (k : Kd) : D := .t (k.w.map D.s)
/-- what stands behind the be of a let -/
inductive Made where
  | same (a : Atom) | sum (s : Str) (a b : Atom) | empty (k : Kd) | put (a r : Atom) | last (r a : Atom) | call (f : Str) (args : List Atom) | ask (q : Str) (a : Atom)
  | keep (k : Str) (a : Atom) (f : Str) (args : List Atom) | go (h a n : Atom)
def argsD (args : List Atom) : D := .t (args.map Atom.d)
def Made.hd (x : Str) : Made → List D
  | .same a => [.s "let", .s x, a.d]
  | .sum s a b => [.s "sum", .s x, .s s, a.d, b.d]
  | .empty k => [.s "empty", .s x, k.d]
  | .put a r => [.s "put", .s x, a.d, r.d]
  | .last r a => [.s "last", .s x, r.d, a.d]
  | .call f args => [.s "call", .s x, .s f, argsD args]
  | .ask q a => [.s "ask", .s x, .s q, a.d]
  | .keep k a f args => [.s "keep", .s x, .s k, a.d, .s f, argsD args]
  | .go h a n => [.s "go", .s x, h.d, a.d, n.d]
def Made.w : Made → List Str
  | .same a => [a.w]
  | .sum s a b => [a.w, s, b.w]
  | .empty k => "empty" :: k.w
  | .put a r => "put" :: a.w :: r.w :: []
  | .last r a => "last" :: r.w :: a.w :: []
  | .call f args => "call" :: f :: args.map Atom.w
  | .ask q a => "ask" :: q :: a.w :: []
  | .keep k a f args => "keep" :: k :: a.w :: f :: args.map Atom.w
  | .go h a n => "go" :: h.w :: a.w :: n.w :: []
inductive Body where
  | give (a : Atom) | tell (a : Atom) (b : Body) | ite (a : Atom) (b c : Body) | case (r : Atom) (b : Body) (x y : Str) (c : Body) | bind (x : Str) (m : Made) (b : Body)
def Body.d : Body → D
  | .give a => .t [.s "give", a.d]
  | .tell a b => .t [.s "tell", a.d, b.d]
  | .ite a b c => .t [.s "if", a.d, b.d, c.d]
  | .case r b x y c => .t [.s "case", r.d, b.d, .s x, .s y, c.d]
  | .bind x m b => .t (m.hd x ++ [b.d])
def Body.w : Body → List Str
  | .give a => "give" :: a.w :: []
  | .tell a b => "tell" :: a.w :: ";" :: b.w
  | .ite a b c => "if" :: a.w :: ":" :: (b.w ++ (("else" : Str) :: (c.w ++ [("end" : Str)])))
  | .case r b x y c => "case" :: r.w :: "none" :: (b.w ++ (("more" : Str) :: x :: y :: (":" : Str) :: (c.w ++ [("end" : Str)])))
  | .bind x m b => "let" :: x :: "be" :: (m.w ++ ((";" : Str) :: b.w))
/-- the heads of its pieces, in order -/
def Body.hs : Body → List D
  | .give a => [.t [.s "give", a.d]]
  | .tell a b => .t [.s "tell", a.d] :: b.hs
  | .ite a b c => .t [.s "if", a.d] :: (b.hs ++ c.hs)
  | .case r b x y c => .t [.s "case", r.d, .s x, .s y] :: (b.hs ++ c.hs)
  | .bind x m b => .t (m.hd x) :: b.hs
def Body.size : Body → Nat
  | .give _ => 1
  | .tell _ b => b.size + 1
  | .ite _ b c => b.size + c.size + 1
  | .case _ b _ _ c => b.size + c.size + 1
  | .bind _ _ b => b.size + 1

/-! ### what is a program's: names and numbers within their forms -/
def Atom.Ok : Atom → Prop | .nm x => isName x = true | .nu n => 0 ≤ n ∧ n ≤ 999999999
def Kd.Ok : Kd → Prop | .num => True | .nums => True | .hold k q => isName k = true ∧ isName q = true | .holds k q => isName k = true ∧ isName q = true
def Kd.row : Kd → Prop | .nums => True | .holds _ _ => True | _ => False
def signs : List Str := ["+", "-", "*", "<", "="]
def Made.Ok : Made → Prop
  | .same a => a.Ok
  | .sum s a b => s ∈ signs ∧ a.Ok ∧ b.Ok
  | .empty k => k.Ok ∧ k.row
  | .put a r => a.Ok ∧ r.Ok
  | .last r a => r.Ok ∧ a.Ok
  | .call f args => isName f = true ∧ ∀ a ∈ args, a.Ok
  | .ask q a => isName q = true ∧ a.Ok
  | .keep k a f args => isName k = true ∧ a.Ok ∧ isName f = true ∧ ∀ a ∈ args, a.Ok
  | .go h a n => h.Ok ∧ a.Ok ∧ n.Ok
def Body.Ok : Body → Prop
  | .give a => a.Ok
  | .tell a b => a.Ok ∧ b.Ok
  | .ite a b c => a.Ok ∧ b.Ok ∧ c.Ok
  | .case r b x y c => r.Ok ∧ b.Ok ∧ isName x = true ∧ isName y = true ∧ c.Ok
  | .bind x m b => isName x = true ∧ m.Ok ∧ b.Ok

/-! ### words are clean -/
def fixed : List Str := (["give", "tell", "if", "else", "case", "none", "more", "let", "be", "end", "empty", "put", "last", "call", "ask", "keep", "go", "num", "nums", "hold", "holds"] : List Str) ++ ([";", ":", "+", "-", "*", "<", "=", "def", "to", "keeper", "note", "takes", "gives", "hears"] : List Str)
theorem fixed_clean : ∀ w ∈ fixed, Clean w := by
  show ∀ w ∈ fixed, 1 ≤ w.length ∧ w.length ≤ 9 ∧ 32 ∉ w.cps.toList ∧ 10 ∉ w.cps.toList
  decide +kernel
theorem Atom.clean {a : Atom} (h : a.Ok) : Clean a.w := by
  cases a with
  | nm x => exact name_clean h
  | nu n => exact fig_clean h.1 h.2
theorem fx {w : Str} (h : w ∈ fixed) : Clean w := fixed_clean w h
theorem Kd.clean {k : Kd} (h : k.Ok) : ∀ w ∈ k.w, Clean w := by
  cases k with
  | num => intro w hw; rw [List.mem_singleton.mp hw]; exact fx (by decide +kernel)
  | nums => intro w hw; rw [List.mem_singleton.mp hw]; exact fx (by decide +kernel)
  | hold k q =>
    intro w hw
    simp only [Kd.w, List.mem_cons, List.not_mem_nil, or_false] at hw
    rcases hw with rfl | rfl | rfl
    · exact fx (by decide +kernel)
    · exact name_clean h.1
    · exact name_clean h.2
  | holds k q =>
    intro w hw
    simp only [Kd.w, List.mem_cons, List.not_mem_nil, or_false] at hw
    rcases hw with rfl | rfl | rfl
    · exact fx (by decide +kernel)
    · exact name_clean h.1
    · exact name_clean h.2
theorem args_clean {as : List Atom} (h : ∀ a ∈ as, a.Ok) : ∀ w ∈ as.map Atom.w, Clean w := fun w hw => by
  obtain ⟨a, ha, rfl⟩ := List.mem_map.mp hw
  exact Atom.clean (h a ha)
theorem signs_fixed : ∀ s ∈ signs, s ∈ fixed := by decide +kernel
theorem Made.clean {m : Made} (h : m.Ok) : ∀ w ∈ m.w, Clean w := by
  cases m with
  | same a => intro w hw; rw [List.mem_singleton.mp hw]; exact Atom.clean h
  | sum s a b =>
    intro w hw
    simp only [Made.w, List.mem_cons, List.not_mem_nil, or_false] at hw
    rcases hw with rfl | rfl | rfl
    · exact Atom.clean h.2.1
    · exact fx (signs_fixed _ h.1)
    · exact Atom.clean h.2.2
  | empty k =>
    intro w hw
    rcases List.mem_cons.mp hw with rfl | hw
    · exact fx (by decide +kernel)
    · exact Kd.clean h.1 w hw
  | put a r =>
    intro w hw
    simp only [Made.w, List.mem_cons, List.not_mem_nil, or_false] at hw
    rcases hw with rfl | rfl | rfl
    · exact fx (by decide +kernel)
    · exact Atom.clean h.1
    · exact Atom.clean h.2
  | last r a =>
    intro w hw
    simp only [Made.w, List.mem_cons, List.not_mem_nil, or_false] at hw
    rcases hw with rfl | rfl | rfl
    · exact fx (by decide +kernel)
    · exact Atom.clean h.1
    · exact Atom.clean h.2
  | call f args =>
    intro w hw
    simp only [Made.w, List.mem_cons] at hw
    rcases hw with rfl | rfl | hw
    · exact fx (by decide +kernel)
    · exact name_clean h.1
    · exact args_clean h.2 w hw
  | ask q a =>
    intro w hw
    simp only [Made.w, List.mem_cons, List.not_mem_nil, or_false] at hw
    rcases hw with rfl | rfl | rfl
    · exact fx (by decide +kernel)
    · exact name_clean h.1
    · exact Atom.clean h.2
  | keep k a f args =>
    intro w hw
    simp only [Made.w, List.mem_cons] at hw
    rcases hw with rfl | rfl | rfl | rfl | hw
    · exact fx (by decide +kernel)
    · exact name_clean h.1
    · exact Atom.clean h.2.1
    · exact name_clean h.2.2.1
    · exact args_clean h.2.2.2 w hw
  | go a b n =>
    intro w hw
    simp only [Made.w, List.mem_cons, List.not_mem_nil, or_false] at hw
    rcases hw with rfl | rfl | rfl | rfl
    · exact fx (by decide +kernel)
    · exact Atom.clean h.1
    · exact Atom.clean h.2.1
    · exact Atom.clean h.2.2
theorem Body.clean : ∀ {b : Body}, b.Ok → ∀ w ∈ b.w, Clean w
  | .give a, h, w, hw => by
    simp only [Body.w, List.mem_cons, List.not_mem_nil, or_false] at hw
    rcases hw with rfl | rfl
    · exact fx (by decide +kernel)
    · exact Atom.clean h
  | .tell a b, h, w, hw => by
    simp only [Body.w, List.mem_cons] at hw
    rcases hw with rfl | rfl | rfl | hw
    · exact fx (by decide +kernel)
    · exact Atom.clean h.1
    · exact fx (by decide +kernel)
    · exact Body.clean h.2 w hw
  | .ite a b c, h, w, hw => by
    simp only [Body.w, List.mem_cons, List.mem_append, List.not_mem_nil, or_false] at hw
    rcases hw with rfl | rfl | rfl | hw | rfl | hw | rfl
    · exact fx (by decide +kernel)
    · exact Atom.clean h.1
    · exact fx (by decide +kernel)
    · exact Body.clean h.2.1 w hw
    · exact fx (by decide +kernel)
    · exact Body.clean h.2.2 w hw
    · exact fx (by decide +kernel)
  | .case r b x y c, h, w, hw => by
    simp only [Body.w, List.mem_cons, List.mem_append, List.not_mem_nil, or_false] at hw
    rcases hw with rfl | rfl | rfl | hw | rfl | rfl | rfl | rfl | hw | rfl
    · exact fx (by decide +kernel)
    · exact Atom.clean h.1
    · exact fx (by decide +kernel)
    · exact Body.clean h.2.1 w hw
    · exact fx (by decide +kernel)
    · exact name_clean h.2.2.1
    · exact name_clean h.2.2.2.1
    · exact fx (by decide +kernel)
    · exact Body.clean h.2.2.2.2 w hw
    · exact fx (by decide +kernel)
  | .bind x m b, h, w, hw => by
    simp only [Body.w, List.mem_cons, List.mem_append] at hw
    rcases hw with rfl | rfl | rfl | hw | rfl | hw
    · exact fx (by decide +kernel)
    · exact name_clean h.1
    · exact fx (by decide +kernel)
    · exact Made.clean h.2.1 w hw
    · exact fx (by decide +kernel)
    · exact Body.clean h.2.2 w hw

/-! ### the reader's stack: ifs and cases that aren't closed, the innermost first -/
structure Frame where
  at_ : Nat
  /-- its second body begun -/
  second : Bool
  /-- of a case its names -/
  names : Option (Str × Str)
  a : Atom
  c : Body
def armH (names : Option (Str × Str)) (a : Atom) : List D := match names with | none => [.s "if", a.d] | some _ => [.s "case", a.d]
def armW : Option (Str × Str) → List Str | none => [("else" : Str)] | some (x, y) => [("more" : Str), x, y, (":" : Str)]
def armD (names : Option (Str × Str)) (a : Atom) : List D := match names with | none => [.s "if", a.d] | some (x, y) => [.s "case", a.d, .s x, .s y]
def Frame.w (f : Frame) : List Str := if f.second = true then [("end" : Str)] else armW f.names ++ (f.c.w ++ [("end" : Str)])
def framesW : List Frame → List Str
  | [] => []
  | f :: r => f.w ++ framesW r
/-- the heads when a second body begins -/
def armHs (h : List D) (f : Frame) : List D := h.set f.at_ (.t (armD f.names f.a))
def Frame.Ok (f : Frame) : Prop := f.c.Ok ∧ ∀ x y, f.names = some (x, y) → isName x = true ∧ isName y = true
/-- what an arm that isn't begun wants of the heads -/
def Frame.Fit (h : List D) (f : Frame) : Prop := h[f.at_]? = some (.t (armH f.names f.a))
/-- behind a give: the ifs and cases that end here -/
inductive After : List D → List Frame → List D → List Frame → Option Body → Prop
  | done (h : List D) : After h [] h [] none
  | up {h h' : List D} {f : Frame} {r fs : List Frame} {o : Option Body} (s : f.second = true) (n : After h r h' fs o) : After h (f :: r) h' fs o
  | on {h : List D} {f : Frame} {r : List Frame} (s : f.second = false) (fit : f.Fit h) (ok : f.Ok) : After h (f :: r) (armHs h f) ({ f with second := true } :: r) (some f.c)
/-- the heads that stand at the end, those of the body that is read being there -/
def tot : List D → List Frame → List D
  | h, [] => h
  | h, f :: r => if f.second = true then tot h r else tot (armHs h f ++ f.c.hs) r
def totO (h' : List D) (fs' : List Frame) : Option Body → List D | none => h' | some c => tot (h' ++ c.hs) fs'
theorem After.tot {h h' : List D} {fs fs' : List Frame} {o : Option Body} (a : After h fs h' fs' o) : Ak.tot h fs = totO h' fs' o := by
  induction a with
  | done => rfl
  | up s n ih => rw [Ak.tot, if_pos s]; exact ih
  | on s fit ok =>
    rw [Ak.tot, if_neg (by rw [s]; decide)]
    show _ = Ak.tot _ (_ :: _)
    rw [Ak.tot, if_pos rfl]
structure FramesOk (h : List D) (fs : List Frame) : Prop where
  lt : ∀ f ∈ fs, f.at_ < h.length
  ok : ∀ f ∈ fs, f.second = false → f.Ok ∧ f.Fit h
  pw : fs.Pairwise fun f g => g.at_ < f.at_
theorem FramesOk.nil (h : List D) : FramesOk h [] := ⟨(fun _ z => nomatch z), (fun _ z => nomatch z), List.Pairwise.nil⟩
theorem FramesOk.tail {h : List D} {f : Frame} {r : List Frame} (x : FramesOk h (f :: r)) : FramesOk h r :=
  ⟨fun g m => x.lt g (by simp [m]), fun g m => x.ok g (by simp [m]), (List.pairwise_cons.mp x.pw).2⟩
theorem FramesOk.app {h : List D} {fs : List Frame} (x : FramesOk h fs) (t : List D) : FramesOk (h ++ t) fs := by
  refine ⟨fun g m => ?_, fun g m s => ⟨(x.ok g m s).1, ?_⟩, x.pw⟩
  · rw [List.length_append]; have := x.lt g m; omega
  · show (h ++ t)[g.at_]? = _
    rw [List.getElem?_append_left (x.lt g m)]
    exact (x.ok g m s).2
theorem After.exists {h : List D} : ∀ {fs : List Frame}, FramesOk h fs → ∃ h' fs' o, After h fs h' fs' o
  | [], _ => ⟨h, [], none, .done h⟩
  | f :: r, x => by
    cases s : f.second with
    | true =>
      obtain ⟨h', fs', o, a⟩ := After.exists x.tail
      exact ⟨h', fs', o, .up s a⟩
    | false =>
      have q := x.ok f (by simp) s
      exact ⟨_, _, _, .on s q.2 q.1⟩
theorem After.frames {h h' : List D} {fs fs' : List Frame} {o : Option Body} (a : After h fs h' fs' o) (x : FramesOk h fs) : FramesOk h' fs' ∧ (∀ c, o = some c → c.Ok) ∧ h'.length = h.length ∧ fs'.length ≤ fs.length := by
  induction a with
  | done => exact ⟨x, (fun _ z => nomatch z), rfl, Nat.le_refl _⟩
  | up s n ih =>
    obtain ⟨a, b, c, d⟩ := ih x.tail
    exact ⟨a, b, c, by rw [List.length_cons]; omega⟩
  | @on f r s fit ok =>
    have pw := List.pairwise_cons.mp x.pw
    have l : (armHs h f).length = h.length := by unfold armHs; rw [List.length_set]
    refine ⟨⟨fun g m => ?_, fun g m e => ?_, List.pairwise_cons.mpr ⟨pw.1, pw.2⟩⟩, fun c e => (Option.some.inj e) ▸ ok.1, l, Nat.le_refl _⟩
    · rw [l]
      rcases List.mem_cons.mp m with rfl | m
      · exact x.lt f (by simp)
      · exact x.lt g (by simp [m])
    · rcases List.mem_cons.mp m with rfl | m
      · exact nomatch e
      · obtain ⟨o1, o2⟩ := x.ok g (by simp [m]) e
        refine ⟨o1, ?_⟩
        show (h.set f.at_ _)[g.at_]? = _
        rw [List.getElem?_set_ne (Nat.ne_of_gt (pw.1 g m))]
        exact o2
/-! ### bodies made of heads, from behind -/
/-- the piece of the head h, the last of st being the bodies already made: st0 of them are left -/
inductive Step : List D → List D → List D → D → Prop
  | give (a : Atom) (st : List D) : Step [.s "give", a.d] st st (Body.give a).d
  | tell (a : Atom) (b : D) (st : List D) : Step [.s "tell", a.d] (st ++ [b]) st (.t [.s "tell", a.d, b])
  | ite (a : Atom) (b c : D) (st : List D) : Step [.s "if", a.d] (st ++ [c] ++ [b]) st (.t [.s "if", a.d, b, c])
  | case (r : Atom) (x y : Str) (b c : D) (st : List D) : Step [.s "case", r.d, .s x, .s y] (st ++ [c] ++ [b]) st (.t [.s "case", r.d, b, .s x, .s y, c])
  | bind (x : Str) (m : Made) (b : D) (st : List D) : Step (m.hd x) (st ++ [b]) st (.t (m.hd x ++ [b]))
/-- heads gone through from behind -/
inductive Steps : List D → List D → List D → Prop
  | nil (st : List D) : Steps [] st st
  | snoc {hs : List D} {h st st1 st2 : List D} {d : D} (a : Step h st st1 d) (b : Steps hs (st1 ++ [d]) st2) : Steps (hs ++ [.t h]) st st2
theorem Steps.app {as bs st st1 st2 : List D} (a : Steps bs st st1) (b : Steps as st1 st2) : Steps (as ++ bs) st st2 := by
  induction a with
  | nil st => rw [List.append_nil]; exact b
  | snoc s r ih => rw [← List.append_assoc]; exact .snoc s (ih b)
theorem Steps.one {h st st1 : List D} {d : D} (a : Step h st st1 d) : Steps [.t h] st (st1 ++ [d]) := Steps.snoc (hs := []) a (.nil _)
theorem Body.steps : ∀ (b : Body) (st : List D), Steps b.hs st (st ++ [b.d])
  | .give a, st => Steps.one (.give a st)
  | .tell a b, st => Steps.app (as := [.t [.s "tell", a.d]]) (b.steps st) (.one (.tell a b.d st))
  | .ite a b c, st => Steps.app (as := [.t [.s "if", a.d]]) (Steps.app (c.steps st) (b.steps _)) (.one (.ite a b.d c.d st))
  | .case r b x y c, st => Steps.app (as := [.t [.s "case", r.d, .s x, .s y]]) (Steps.app (c.steps st) (b.steps _)) (.one (.case r x y b.d c.d st))
  | .bind x m b, st => Steps.app (as := [.t (m.hd x)]) (b.steps st) (.one (.bind x m b.d st))
theorem Body.hs_len : ∀ b : Body, b.hs.length ≤ b.w.length
  | .give a => by simp [Body.hs, Body.w]
  | .tell a b => by have := b.hs_len; simp [Body.hs, Body.w]; omega
  | .ite a b c => by have := b.hs_len; have := c.hs_len; simp [Body.hs, Body.w]; omega
  | .case r b x y c => by have := b.hs_len; have := c.hs_len; simp [Body.hs, Body.w]; omega
  | .bind x m b => by have := b.hs_len; simp [Body.hs, Body.w]; omega
/-! ### a body's first piece, and what is left to read behind it -/
def Body.hw : Body → List Str
  | .give a => "give" :: a.w :: []
  | .tell a _ => "tell" :: a.w :: ";" :: []
  | .ite a _ _ => "if" :: a.w :: ":" :: []
  | .case r _ _ _ _ => "case" :: r.w :: "none" :: []
  | .bind x m _ => "let" :: x :: "be" :: (m.w ++ [(";" : Str)])
def Body.tw : Body → List Str
  | .give _ => []
  | .tell _ b => b.w
  | .ite _ b c => b.w ++ (("else" : Str) :: (c.w ++ [("end" : Str)]))
  | .case _ b x y c => b.w ++ (("more" : Str) :: x :: y :: (":" : Str) :: (c.w ++ [("end" : Str)]))
  | .bind _ _ b => b.w
theorem Body.w_eq (b : Body) : b.w = b.hw ++ b.tw := by
  cases b <;> simp [Body.w, Body.hw, Body.tw]
def Body.h1 : Body → List D
  | .give a => [.s "give", a.d]
  | .tell a _ => [.s "tell", a.d]
  | .ite a _ _ => [.s "if", a.d]
  | .case r _ _ _ _ => [.s "case", r.d]
  | .bind x m _ => m.hd x
/-- the open ifs and cases behind its first piece -/
def Body.nextF (n : Nat) (fs : List Frame) : Body → List Frame
  | .ite a _ c => ⟨n, false, none, a, c⟩ :: fs
  | .case r _ x y c => ⟨n, false, some (x, y), r, c⟩ :: fs
  | _ => fs
def Body.next : Body → Option Body
  | .give _ => none
  | .tell _ b => some b
  | .ite _ b _ => some b
  | .case _ b _ _ _ => some b
  | .bind _ _ b => some b
theorem set_mid (A : List D) (x y : D) (B : List D) : (A ++ [x] ++ B).set A.length y = A ++ [y] ++ B := by
  rw [List.append_assoc, List.set_append_right _ _ (Nat.le_refl _), Nat.sub_self, List.append_assoc]
  rfl
theorem Body.next_tot {b b' : Body} (hs : List D) (fs : List Frame) (h : b.next = some b') : tot (hs ++ [.t b.h1] ++ b'.hs) (b.nextF hs.length fs) = tot (hs ++ b.hs) fs := by
  cases b with
  | give a => exact nomatch h
  | tell a b1 => cases h; simp [Body.hs, Body.h1, Body.nextF]
  | bind x m b1 => cases h; simp [Body.hs, Body.h1, Body.nextF]
  | ite a b1 c1 =>
    cases h
    show tot _ (⟨hs.length, false, none, a, c1⟩ :: fs) = _
    rw [tot, if_neg Bool.false_ne_true]
    show tot ((hs ++ [D.t [.s "if", a.d]] ++ b'.hs).set hs.length (.t [.s "if", a.d]) ++ c1.hs) fs = _
    rw [set_mid]
    simp [Body.hs]
  | case r b1 x y c1 =>
    cases h
    show tot _ (⟨hs.length, false, some (x, y), r, c1⟩ :: fs) = _
    rw [tot, if_neg Bool.false_ne_true]
    show tot ((hs ++ [D.t [.s "case", r.d]] ++ b'.hs).set hs.length (.t [.s "case", r.d, .s x, .s y]) ++ c1.hs) fs = _
    rw [set_mid]
    simp [Body.hs]
theorem Body.next_words {b b' : Body} (n : Nat) (fs : List Frame) (h : b.next = some b') : b.tw ++ framesW fs = b'.w ++ framesW (b.nextF n fs) := by
  cases b with
  | give a => exact nomatch h
  | tell a b1 => cases h; rfl
  | bind x m b1 => cases h; rfl
  | ite a b1 c1 => cases h; simp [Body.tw, Body.nextF, framesW, Frame.w, armW]
  | case r b1 x y c1 => cases h; simp [Body.tw, Body.nextF, framesW, Frame.w, armW]
theorem Body.next_ok {b b' : Body} (h : b.next = some b') (ok : b.Ok) : b'.Ok := by
  cases b with
  | give a => exact nomatch h
  | tell a b1 => cases h; exact ok.2
  | bind x m b1 => cases h; exact ok.2.2
  | ite a b1 c1 => cases h; exact ok.2.1
  | case r b1 x y c1 => cases h; exact ok.2.1
theorem Body.next_frames {b : Body} {hs : List D} {fs : List Frame} (ok : b.Ok) (x : FramesOk hs fs) : FramesOk (hs ++ [.t b.h1]) (b.nextF hs.length fs) := by
  have y := x.app [.t b.h1]
  have push : ∀ f : Frame, f.at_ = hs.length → f.Ok → D.t b.h1 = .t (armH f.names f.a) → FramesOk (hs ++ [.t b.h1]) (f :: fs) := fun f e o q => by
    refine ⟨fun g m => ?_, fun g m s => ?_, List.pairwise_cons.mpr ⟨fun g m => ?_, y.pw⟩⟩
    · rcases List.mem_cons.mp m with rfl | m
      · rw [e, List.length_append]; show _ < _ + 1; omega
      · exact y.lt g m
    · rcases List.mem_cons.mp m with rfl | m
      · refine ⟨o, ?_⟩
        show (hs ++ [D.t b.h1])[g.at_]? = _
        rw [e, List.getElem?_append_right (Nat.le_refl _), Nat.sub_self, q]; rfl
      · exact y.ok g m s
    · rw [e]; exact x.lt g m
  cases b with
  | give a => exact y
  | tell a b1 => exact y
  | bind z m b1 => exact y
  | ite a b1 c1 => exact push _ rfl ⟨ok.2.2, fun _ _ z => nomatch z⟩ rfl
  | case r b1 u v c1 => exact push _ rfl ⟨ok.2.2.2.2, fun p q z => by cases z; exact ⟨ok.2.2.1, ok.2.2.2.1⟩⟩ rfl
theorem Body.hw_len (b : Body) : 2 ≤ b.hw.length := by cases b <;> simp [Body.hw]
def Body.arm : Body → Bool | .ite _ _ _ => true | .case _ _ _ _ _ => true | _ => false
theorem Made.hd_word (x : Str) (m : Made) : ∃ w0 t, m.hd x = .s w0 :: t ∧ inV (.str w0) [V.str "if", V.str "case"] = false ∧ decide (V.str w0 = V.str "give") = false := by
  cases m <;> exact ⟨_, _, rfl, by decide +kernel, by decide +kernel⟩
theorem Body.h1_hd (b : Body) : ∃ w0 t, b.h1 = .s w0 :: t ∧ inV (.str w0) [V.str "if", V.str "case"] = b.arm ∧ decide (V.str w0 = V.str "give") = b.next.isNone := by
  cases b with
  | bind x m b1 =>
    obtain ⟨w0, t, e, a, c⟩ := Made.hd_word x m
    exact ⟨w0, t, e, a, c⟩
  | give a => exact ⟨_, _, rfl, (by decide +kernel : inV (.str "give") [V.str "if", V.str "case"] = false), (by decide +kernel : decide (V.str "give" = V.str "give") = true)⟩
  | tell a b1 => exact ⟨_, _, rfl, (by decide +kernel : inV (.str "tell") [V.str "if", V.str "case"] = false), (by decide +kernel : decide (V.str "tell" = V.str "give") = false)⟩
  | ite a b1 c1 => exact ⟨_, _, rfl, (by decide +kernel : inV (.str "if") [V.str "if", V.str "case"] = true), (by decide +kernel : decide (V.str "if" = V.str "give") = false)⟩
  | case r b1 x y c1 => exact ⟨_, _, rfl, (by decide +kernel : inV (.str "case") [V.str "if", V.str "case"] = true), (by decide +kernel : decide (V.str "case" = V.str "give") = false)⟩
theorem Body.nextF_no {b : Body} (h : b.arm = false) (n : Nat) (fs : List Frame) : b.nextF n fs = fs := by
  cases b <;> first | rfl | exact nomatch h
theorem Body.nextF_yes {b : Body} (h : b.arm = true) (n : Nat) (fs : List Frame) : ∃ f : Frame, b.nextF n fs = f :: fs ∧ f.at_ = n ∧ f.second = false := by
  cases b <;> first | exact ⟨_, rfl, rfl, rfl⟩ | exact nomatch h
theorem Body.give_hs {b : Body} (h : b.next = none) : b.hs = [.t b.h1] ∧ b.tw = [] ∧ b.arm = false := by
  cases b <;> first | exact ⟨rfl, rfl, rfl⟩ | exact nomatch h
end Ak
/-! zip of three lists, as a loop or a comprehension goes through it -/
namespace Ak
open PySem L2 PySem.Spec PyProof.Rows
/-- the three lists as they stand at each turn; what is handed out is a new tuple -/
def Itz3 (K : PySem.W.Frag) (a b c : Addr) : It :=
  ⟨fun i H => ∃ (xs ys zs : List V) (x y u : V), (SqL K H a xs ∧ SqL K H b ys ∧ SqL K H c zs) ∧ xs[i]? = some x ∧ ys[i]? = some y ∧ zs[i]? = some u,
    fun i H v H' => ∃ T x y u, v = .ref T ∧ H T = none ∧ H' = upd H T (.tup [x, y, u]) ∧ (∀ xs, SqL K H a xs → xs[i]? = some x) ∧ (∀ ys, SqL K H b ys → ys[i]? = some y) ∧ ∀ zs, SqL K H c zs → zs[i]? = some u,
    fun i H => ∃ xs ys zs : List V, (SqL K H a xs ∧ SqL K H b ys ∧ SqL K H c zs) ∧ (i ≤ xs.length ∧ i ≤ ys.length ∧ i ≤ zs.length) ∧ (i = xs.length ∨ i = ys.length ∨ i = zs.length)⟩
theorem turn_zip3 {P : Program} {w : World} {K : PySem.W.Frag} {elts : List Expr} {kk : Nat} {tpos : Pos} {a b c z TI TO i1 i2 i3 : Addr} (D : ZipSep3 z TI TO i1 i2 i3 [i1, a] [i2, b] [i3, c]) :
    Turn P w K (.Tuple elts kk tpos) (Itz3 K a b c) [z, TI, TO, i1, i2, i3] z
      (fun i h => IsZip h z TI TO .none ∧ IsTupOf3 h TI (.ref i1) (.ref i2) (.ref i3) ∧ (∃ x y u, IsTupOf3 h TO x y u) ∧ h.IsListIter i1 a i ∧ h.IsListIter i2 b i ∧ h.IsListIter i3 c i) where
  mem := by simp
  obj := fun i h st d hd => by
    obtain ⟨hz, hTI, ⟨x, y, u, hTO⟩, ⟨o1, e1, _, d1⟩, ⟨o2, e2, _, d2⟩, ⟨o3, e3, _, d3⟩⟩ := st
    have e' : d = z ∨ d = TI ∨ d = TO ∨ d = i1 ∨ d = i2 ∨ d = i3 := by simpa using hd
    rcases e' with q | q | q | q | q | q
    · subst q; exact ⟨_, hz, fun v q => nomatch q⟩
    · subst q; exact ⟨_, hTI, fun v q => nomatch q⟩
    · subst q; exact ⟨_, hTO, fun v q => nomatch q⟩
    · subst q; exact ⟨o1, e1, fun v q => by rw [d1] at q; cases q⟩
    · subst q; exact ⟨o2, e2, fun v q => by rw [d2] at q; cases q⟩
    · subst q; exact ⟨o3, e3, fun v q => by rw [d3] at q; cases q⟩
  keep := fun i h h' st k => by
    obtain ⟨hz, hTI, ⟨x, y, u, hTO⟩, h1, h2, h3⟩ := st
    exact ⟨k z (by simp) _ hz, k TI (by simp) _ hTI, ⟨x, y, u, k TO (by simp) _ hTO⟩, h1.at fun o q => k i1 (by simp) o q, h2.at fun o q => k i2 (by simp) o q, h3.at fun o q => k i3 (by simp) o q⟩
  item := by
    intro X hP hw hK hc i pins s σ H E I hfp st hg
    subst hP hw hK
    obtain ⟨hz, hTI, ⟨x0, y0, u0, hTO⟩, h1, h2, h3⟩ := st
    obtain ⟨xs, ys, zs, x, y, u, ⟨hqx, hqy, hqz⟩, hx, hy, hu⟩ := hg
    obtain ⟨ua, wa, p, _⟩ := I.list hqx
    obtain ⟨ub, wb, p2, _⟩ := I.list hqy
    obtain ⟨uc, wc, p3, _⟩ := I.list hqz
    obtain ⟨v1, hv1, r1⟩ := wa.get hx
    obtain ⟨v2, hv2, r2⟩ := wb.get hy
    obtain ⟨v3, hv3, r3⟩ := wc.get hu
    have zlt : z < s.heap.objs.size := Heap.lt_size hz
    have hh : X.A.in1.handled = none := I.ok.hd hc
    have n1 : a ≠ i1 := fun e => by
      obtain ⟨o, ho, _, hd⟩ := h1
      obtain ⟨o', ho', _, hd'⟩ := p.isList
      rw [← e, ho'] at ho
      have := (Option.some.inj ho)
      subst this
      simp_all
    have n2 : b ≠ i2 := fun e => by
      obtain ⟨o, ho, _, hd⟩ := h2
      obtain ⟨o', ho', _, hd'⟩ := p2.isList
      rw [← e, ho'] at ho
      have := (Option.some.inj ho)
      subst this
      simp_all
    have n3 : c ≠ i3 := fun e => by
      obtain ⟨o, ho, _, hd⟩ := h3
      obtain ⟨o', ho', _, hd'⟩ := p3.isList
      rw [← e, ho'] at ho
      have := (Option.some.inj ho)
      subst this
      simp_all
    have l1 : i < ua.toArray.size := by have := (List.getElem?_eq_some_iff.mp hv1).1; simpa using this
    have l2 : i < ub.toArray.size := by have := (List.getElem?_eq_some_iff.mp hv2).1; simpa using this
    have l3 : i < uc.toArray.size := by have := (List.getElem?_eq_some_iff.mp hv3).1; simpa using this
    refine wpAny_pyNext_zipD3_item D (Draws.list hh i1 a n1 ua.toArray) (Draws.list hh i2 b n2 ub.toArray) (Draws.list hh i3 c n3 uc.toArray) hz hTI hTO ⟨h1, p.isList⟩ ⟨h2, p2.isList⟩ ⟨h3, p3.isList⟩ l1 l2 l3
      fun x1 x2 x3 h' tk y1 y2 y3 z' TOk st1 st2 st3 hNew hsz hk => ?_
    have q1 : v1 = x1 := Option.some.inj (hv1.symm.trans (by simpa using y1))
    have q2 : v2 = x2 := Option.some.inj (hv2.symm.trans (by simpa using y2))
    have q3 : v3 = x3 := Option.some.inj (hv3.symm.trans (by simpa using y3))
    subst q1 q2 q3
    refine ⟨_, rfl, wpAny_letOwnedTupleGo_zip (s := { s with heap := h', toks := tk }) z' fun h'' z'' sub => ?_⟩
    have hNew2 : h''.get? s.heap.objs.size = some { cls := .type "tuple", data := .seq #[v1, v2, v3] } := (sub.2 _ (Nat.ne_of_gt zlt)).trans hNew
    have new : ObjOk X.prog X.w (upd H s.heap.objs.size (.tup [x, y, u])) h'' s.heap.objs.size (.tup [x, y, u]) :=
      ⟨by show 3 ≤ sizeLine; decide, [v1, v2, v3], .cons r1 (.cons r2 (.cons r3 .nil)), ⟨_, hNew2, rfl, _, rfl⟩⟩
    have I1 : Inv X pins σ (upd H s.heap.objs.size (.tup [x, y, u])) { s with heap := h'', toks := tk } :=
      I.turnedNew (t' := tk) (ch := [z, TI, TO, i1, i2, i3]) (fun d o hb q => (sub.2 d (fun q' => hb (by simp [q']))).trans (hk d o (fun q' => hb (by simp [q'])) (fun q' => hb (by simp [q'])) (fun q' => hb (by simp [q'])) (fun q' => hb (by simp [q'])) (fun q' => hb (by simp [q'])) q)) hfp (Nat.le_refl _) new
    refine ⟨.ref s.heap.objs.size, _, I1, rfl, ⟨_, x, y, u, rfl, I.hok.fresh (Nat.le_refl _), rfl, fun l hl => by rw [I.list_inj hl hqx]; exact hx, fun l hl => by rw [I.list_inj hl hqy]; exact hy, fun l hl => by rw [I.list_inj hl hqz]; exact hu⟩,
      ⟨z'', ?_, ⟨v1, v2, v3, ?_⟩, ?_, ?_, ?_⟩, fun d hdm => ?_⟩
    · exact (sub.2 _ D.TIz).trans (hk _ _ D.TIz D.TITO D.TIi1 D.TIi2 D.TIi3 hTI)
    · exact (sub.2 _ D.TOz).trans TOk
    · exact st1.1.at fun o q => (sub.2 _ (Ne.symm D.zi1)).trans q
    · exact st2.1.at fun o q => (sub.2 _ (Ne.symm D.zi2)).trans q
    · exact st3.1.at fun o q => (sub.2 _ (Ne.symm D.zi3)).trans q
    · have dlt : d < s.heap.objs.size := by
        have e' : d = z ∨ d = TI ∨ d = TO ∨ d = i1 ∨ d = i2 ∨ d = i3 := by simpa using hdm
        rcases e' with q | q | q | q | q | q
        · subst q; exact zlt
        · subst q; exact Heap.lt_size hTI
        · subst q; exact Heap.lt_size hTO
        · subst q; obtain ⟨_, e1, _⟩ := h1; exact Heap.lt_size e1
        · subst q; obtain ⟨_, e2, _⟩ := h2; exact Heap.lt_size e2
        · subst q; obtain ⟨_, e3, _⟩ := h3; exact Heap.lt_size e3
      rw [upd_ne (Nat.ne_of_lt dlt)]
      exact (hfp d hdm).1
  done := by
    intro X hP hw hK hc i pins s σ H E I hfp st hg
    subst hP hw hK
    obtain ⟨hz, hTI, ⟨x0, y0, u0, hTO⟩, h1, h2, h3⟩ := st
    obtain ⟨xs, ys, zs, ⟨hqx, hqy, hqz⟩, ⟨g1, g2, g3⟩, hend⟩ := hg
    obtain ⟨ua, wa, p, _⟩ := I.list hqx
    obtain ⟨ub, wb, p2, _⟩ := I.list hqy
    obtain ⟨uc, wc, p3, _⟩ := I.list hqz
    have l1 := wa.length
    have l2 := wb.length
    have l3 := wc.length
    have hh : X.A.in1.handled = none := I.ok.hd hc
    have n1 : a ≠ i1 := fun e => by
      obtain ⟨o, ho, _, hd⟩ := h1
      obtain ⟨o', ho', _, hd'⟩ := p.isList
      rw [← e, ho'] at ho
      have := (Option.some.inj ho)
      subst this
      simp_all
    have n2 : b ≠ i2 := fun e => by
      obtain ⟨o, ho, _, hd⟩ := h2
      obtain ⟨o', ho', _, hd'⟩ := p2.isList
      rw [← e, ho'] at ho
      have := (Option.some.inj ho)
      subst this
      simp_all
    have n3 : c ≠ i3 := fun e => by
      obtain ⟨o, ho, _, hd⟩ := h3
      obtain ⟨o', ho', _, hd'⟩ := p3.isList
      rw [← e, ho'] at ho
      have := (Option.some.inj ho)
      subst this
      simp_all
    have s1 : ua.toArray.size = ua.length := by simp
    have s2 : ub.toArray.size = ub.length := by simp
    have s3 : uc.toArray.size = uc.length := by simp
    exact wpAny_pyNext_zipD3_end D (Draws.list hh i1 a n1 ua.toArray) (Draws.list hh i2 b n2 ub.toArray) (Draws.list hh i3 c n3 uc.toArray) hz hTI hTO ⟨h1, p.isList⟩ ⟨h2, p2.isList⟩ ⟨h3, p3.isList⟩
      (by omega) (by omega) (by omega) (by omega) fun h' tk hk => ⟨rfl, I.turnedL (t' := tk) (ch := [z, TI, TO, i1, i2, i3]) (fun d o hb q =>
      hk d o (fun q' => hb (by simp [q'])) (fun q' => hb (by simp [q'])) (fun q' => hb (by simp [q'])) (fun q' => hb (by simp [q'])) (fun q' => hb (by simp [q'])) q) hfp⟩
  self := fun _ _ _ _ _ st => wpAny_pyIter_zip st.1
def iZip3 (K : PySem.W.Frag) (ta : TA) : TI := fun σ H R => ta σ H fun vs H1 => ∃ a b c xs ys zs, vs = [.ref a, .ref b, .ref c] ∧ (SqL K H1 a xs ∧ SqL K H1 b ys ∧ SqL K H1 c zs) ∧ R (Itz3 K a b c) H1
theorem pi_zip3 {X : Cx} {e e2 e3 : Expr} {ta : TA} {p pos tpos : Pos} {elts : List Expr} {kk : Nat} (hg : Gl X "zip") (hm : X.mg "zip" = none) (ha : PA X [e, e2, e3] ta)
    (hs : starEach [e, e2, e3] X.env = (false, eval e X.env) :: starEach [e2, e3] X.env := by rfl) (hpl : (backTo pos (starEach [e2, e3] X.env)).any (·.1) = false := by rfl) :
    PI X (.Tuple elts kk tpos) (.Call (.Name "zip" p) [e, e2, e3] [] pos) (iZip3 X.K ta) := by
  refine ⟨fun pins s σ H Want I h => ?_⟩
  refine Call_ (ld_blt I hg hm PyProof.Rows.boot_zip (PyProof.Rows.callWith_type1 (thn (ha.run pos pins s σ H _ I h) fun _ s1 ⟨vs, H1, I1, r1, q1⟩ => ?_) hs hpl))
  obtain ⟨a, b, c, xs, ys, zs, ex, ⟨hqx, hqy, hqz⟩, q⟩ := q1
  subst ex
  cases r1 with
  | cons r rr =>
    cases rr with
    | cons r' rr =>
      cases rr with
      | cons r'' rr =>
        cases rr
        cases r
        cases r'
        cases r''
        obtain ⟨ua, wa, p1, _⟩ := I1.list hqx
        obtain ⟨ub, wb, p2, _⟩ := I1.list hqy
        obtain ⟨uc, wc, p3, _⟩ := I1.list hqz
        have sza : a < s1.heap.objs.size := p1.lt
        have szb : b < s1.heap.objs.size := p2.lt
        have szc : c < s1.heap.objs.size := p3.lt
        refine zip_begins3 (begins_list a _) (begins_list b _) (begins_list c _) p1.isList p2.isList p3.isList fun h' hz hTI hTO h1 h2 h3 hsz hk => wpAny_pyIter_zip hz ?_
        have Iz : Inv X pins σ H1 { s1 with heap := h' } := I1.kept (t' := s1.toks) hk
        refine ⟨s1.heap.objs.size + 5, [s1.heap.objs.size + 5, s1.heap.objs.size + 3, s1.heap.objs.size + 4, s1.heap.objs.size, s1.heap.objs.size + 1, s1.heap.objs.size + 2], _, _, H1, rfl, Iz,
          turn_zip3 (zip_sep3 (fp1 := [a]) (fp2 := [b]) (fp3 := [c]) (by simpa using sza) (by simpa using szb) (by simpa using szc)), ⟨hz, hTI, ⟨_, _, _, hTO⟩, ⟨_, h1, rfl, rfl⟩, ⟨_, h2, rfl, rfl⟩, ⟨_, h3, rfl, rfl⟩⟩, fun d hdm => ?_, q⟩
        have e' : d = s1.heap.objs.size + 5 ∨ d = s1.heap.objs.size + 3 ∨ d = s1.heap.objs.size + 4 ∨ d = s1.heap.objs.size ∨ d = s1.heap.objs.size + 1 ∨ d = s1.heap.objs.size + 2 := by simpa using hdm
        have hge : s1.heap.objs.size ≤ d := by
          rcases e' with z | z | z | z | z | z <;> (subst z; simp)
        exact I1.fpOk hge (I1.hok.fresh hge)
end Ak
/-! errors of own classes with fields: isinstance of such a one, a def that tells or raises -/
namespace Ak
open PySem PySem.Spec PyProof.Rows L2
/-- isinstance(e, c), e the exception that the suite holds (its class D, its dict d) -/
def rIsD (K : PySem.W.Frag) (D a : Addr) (d : Option Addr) : List V → Hp → VK → Prop := fun xs H Q => ∃ (c : V) (cv : Value) (b : Bool) (dd : Addr) (fs : List (Str × V)), xs = [.ref a, c] ∧ (∀ u, RelV c u → u = cv) ∧ PySem.W.kitOne K (.ref D) cv = some b ∧
  d = some dd ∧ H dd = some (.xd fs) ∧ Q (.bl b) H
theorem call_isD {X : Cx} {a D : Addr} {d : Option Addr} {oe : Obj} {pn : List (Addr × Obj)} (C : ExcC X.K D) (hz : Zc (.ref D) d oe) (hf : ∃ vs, oe.data = .fields vs) : CallR (X.suite a ((a, oe) :: pn)) (.builtin "isinstance") (rIsD X.K D a d) := by
  intro pins s σ H xs us Q I r h
  obtain ⟨c, cv, b, dd, fs, rfl, hcv, e, rfl, hd, q⟩ := h
  cases r with
  | cons r1 rr =>
    cases rr with
    | cons r2 rr =>
      cases rr
      cases r1
      have ec := hcv _ r2
      subst ec
      have pin := (I.pin (a, oe) (List.mem_append_left _ List.mem_cons_self)).1
      obtain ⟨vs, hv⟩ := hf
      have ob : ObjOk X.prog X.w H s.heap dd (.xd fs) := I.hok dd _ hd
      obtain ⟨mA, hns, _⟩ := ob
      obtain ⟨od, ho, _⟩ := lookIn_ns hns
      have J : PySem.W.InstAt s.heap a oe D (some od) := ⟨pin, hz.1, by unfold PySem.W.notCls; rw [hv] <;> rfl, by rw [hz.2]; exact ho⟩
      obtain ⟨cd, hc, _⟩ := PySem.W.any_some C.hd
      exact PySem.W.kia_one (PySem.W.kitx_exc (by rw [hc]; rfl) C.hg C.hk C.hs C.ha C.hn C.ht C.hm) I.kIn J e (fun z => nomatch z) fun tk => ⟨.bl b, H, I.kept (t' := tk) fun _ _ z => z, rfl, q⟩
section
variable {P : Program} {w : World} {K : PySem.W.Frag} {mg : Str → Option Value} {base : Heap} {CX : CXT} {k : Nat} {f : Addr} {fd : FuncData} {ps : List Str} {sp sp' : Sp}
theorem FnOk.lift (F : FnOk P w K mg base CX0 k f fd ps sp) : FnOk P w K mg base CX k f fd ps sp :=
  ⟨F.len, fun A outer s H args us vs Q E hr he hb hv hs => by
    refine codeAny_mono (F.run A outer s H args us vs Q E hr he hb hv hs) fun r s' h => ?_
    cases r with
    | ok v => cases v <;> exact h
    | error e => exact h.elim⟩
theorem FnOk.or (F : FnOk P w K mg base CX k f fd ps sp) (G : FnOk P w K mg base CX k f fd ps sp') : FnOk P w K mg base CX k f fd ps (fun vs H Q E => sp vs H Q E ∨ sp' vs H Q E) :=
  ⟨fun vs H Q E q => q.elim (F.len vs H Q E) (G.len vs H Q E), fun A outer s H args us vs Q E hr he hb hv hs => hs.elim (F.run A outer s H args us vs Q E hr he hb hv) (G.run A outer s H args us vs Q E hr he hb hv)⟩
/-- of several defs that a slot may hold, each of which may raise -/
structure HeldX (P : Program) (w : World) (K : PySem.W.Frag) (mg : Str → Option Value) (base : Heap) (CX : CXT) (k : Nat) (f : Addr) (sp : Sp) : Prop where
  ex : ∃ (fd : FuncData) (ps : List Str), FnOk P w K mg base CX k f fd ps sp ∧ PySem.W.keepIn K (.ref f) = true ∧ Binds K fd ps []
def tCallAX (i : Nat) (S : Addr → Option Sp) (E : XK) (t : TA) : TE := fun σ H Q => ∃ f sp, σ[i]? = some (some (.ref f)) ∧ S f = some sp ∧ t σ H fun vs H1 => sp vs H1 Q E
theorem pe_callAX {X : Cx} {CX : CXT} {k i : Nat} {E : XK} {x : Str} {p pos : Pos} {e : Expr} {es : List Expr} {t : TA} {S : Addr → Option Sp} (A : ∀ f sp, S f = some sp → HeldX X.prog X.w X.K X.mg X.base CX k f sp) (hr : Room k X.A) (hN : X.N[i]? = some x) (hv : Vis X.env.scope x) (hx : Passes CX X E) (ha : PA X (e :: es) t)
    (hdb : (x == ("__debug__" : Str)) = false := by decide) (hcd : (x == ("__classdict__" : Str)) = false := by decide)
    (he : starEach (e :: es) X.env = (false, eval e X.env) :: starEach es X.env := by rfl) (hpl : (backTo pos (starEach es X.env)).any (·.1) = false := by rfl) : PE X (.Call (.Name x p) (e :: es) [] pos) (tCallAX i S E t) := by
  refine ⟨fun pins s σ H Q I h => ?_⟩
  obtain ⟨f, sp, hs, hS, ht⟩ := h
  obtain ⟨fd, ps, F, hk, hb⟩ := (A f sp hS).ex
  refine (pe_callL (i := i) (f := f) (sp := sp) (dvs := []) (E := E) F hr hN hv hk hb .nil hx ha hdb hcd he hpl).run pins s σ H Q I ⟨hs, ?_⟩
  have e0 : (fun (vs : List V) (H1 : Hp) => sp (vs ++ []) H1 Q E) = fun vs H1 => sp vs H1 Q E := by
    funext vs H1
    rw [List.append_nil]
  show t σ H (fun vs H1 => sp (vs ++ []) H1 Q E)
  rw [e0]
  exact ht
end
end Ak
/-! t[::-1], t a tuple: a new tuple -/
namespace Ak.RevT
open PySem PyProof.Rows HT
open PySem.SeqAt
open PySem.MeetsSeq PySem.MeetsSeq2 PySem.MeetsSeq3
theorem adj (n : Nat) : Builtin.Slice.sliceAdjust none none (-1) (n : Int) = ((n : Int) - 1, -1) := by
  unfold Builtin.Slice.sliceAdjust
  simp
theorem plc (n : Nat) : Builtin.Slice.slicePlaces ((n : Int) - 1) (-1) (-1) = n := by
  unfold Builtin.Slice.slicePlaces
  have h1 : ¬ ((-1 : Int) > 0) := by omega
  rw [if_neg h1]
  by_cases h : ((n : Int) - 1) > -1
  · rw [if_pos h]
    show (((n : Int) - 1 - -1 - 1) / 1 + 1).toNat = n
    rw [Int.ediv_one]; omega
  · rw [if_neg h]; omega
theorem pck (xs : Array Value) : ((List.range xs.size).filterMap fun (m : Nat) => xs[(((xs.size : Int) - 1) + (m : Int) * (-1)).toNat]?).toArray = xs.toList.reverse.toArray := by
  have e : (fun (m : Nat) => xs[(((xs.size : Int) - 1) + (m : Int) * (-1)).toNat]?) = (fun x => xs[x]?) ∘ fun m => xs.size - 1 - m := by
    funext m
    have : (((xs.size : Int) - 1) + (m : Int) * (-1)).toNat = xs.size - 1 - m := by omega
    simp only [Function.comp, this]
  rw [e, ← List.filterMap_map, PySem.W.krv_range, List.filterMap_reverse, PySem.W.krv_all]
section
variable {prog : Program} {w : World} {A : Around} {E : Value → Shared → Prop} {s : Shared}
theorem appl {sl : Addr} {vl vu vs : Value} {n : Nat} {Q : Int × Int × Nat → Shared → Prop} (hs : s.heap.IsSliceOf sl vl vu vs) (pl : IsPart vl none) (pu : IsPart vu none) (ps : IsPart vs (some (-1)))
    (h : Q ((n : Int) - 1, -1, n) s) : wpAny (model prog w) A (Builtin.Slice.sliceApplied (.ref sl) (pure (n : Int))) Q E s := by
  obtain ⟨os, hos, hcs, hds⟩ := id hs
  unfold Builtin.Slice.sliceApplied Builtin.Slice.sliceFields
  refine wpAny_bind (wpAny_bind (wpAny_field hos hds (x := vl) rfl (wpAny_bind (wpAny_field hos hds (x := vu) rfl (wpAny_bind (wpAny_field hos hds (x := vs) rfl (wpAny_pure ?_)))))))
  refine wpAny_bind (slicePart_ ps ?_)
  show wpAny _ _ (if ((-1 : Int) == 0) = true then _ else _) _ _ s
  rw [if_neg (by decide)]
  refine wpAny_bind (slicePart_ pl (wpAny_bind (slicePart_ pu (wpAny_bind (wpAny_pure ?_)))))
  show wpAny _ _ (match Builtin.Slice.sliceAdjust none none (-1) (n : Int) with | (lo, hi) => pure (lo, (-1 : Int), Builtin.Slice.slicePlaces lo hi (-1))) _ _ s
  rw [adj]
  show wpAny _ _ (pure ((n : Int) - 1, (-1 : Int), Builtin.Slice.slicePlaces ((n : Int) - 1) (-1) (-1))) _ _ s
  rw [plc]
  exact wpAny_pure h
theorem getI {t sl : Addr} {items : Array Value} {vl vu vs : Value} {Q : Value → Shared → Prop} (ht : IsTup s.heap t items) (hs : s.heap.IsSliceOf sl vl vu vs) (pl : IsPart vl none) (pu : IsPart vu none) (ps : IsPart vs (some (-1)))
    (h : Q (.ref s.heap.objs.size) { s with heap := s.heap.push { cls := .type "tuple", data := .seq items.toList.reverse.toArray } }) (hsz : items.size ≤ sizeLine) : wpAny (model prog w) A (getItem (.ref t) (.ref sl)) Q E s := by
  have htk : sizeOk (.seq items.toList.reverse.toArray) := by
    show items.toList.reverse.toArray.size ≤ sizeLine
    rw [List.size_toArray, List.length_reverse, Array.length_toList]; exact hsz
  obtain ⟨os, hos, hcs, hds⟩ := id hs
  have hT : s.TypeIs (.ref sl) "slice" := ⟨os, hos, hcs⟩
  unfold getItem
  try with_reducible refine wpAny_holding ?_
  first | refine wpAny_bind (wpAny_pure ?_) | skip
  refine wpAny_bind (wpAny_sequenceKey ht.typeIs (by decide) ?_)
  refine wpAny_bind (wpAny_callSpecial?_slot (name := Str.ofString "__getitem__") ht.typeIs PyProof.Rows.slot_tuple_getitem (wpAny_call_entry PyProof.Rows.slot_tuple_getitem ht.typeIs entry_tuple_getitem ?_ (args_tuple_getitem _ _)))
  show wpAny _ _ (Builtin.Tuple.tupleItemsOf (.ref t) >>= _) _ _ s
  refine wpAny_bind (tupleItemsOf_ ht (wpAny_bind (wpAny_typeOf hT ?_)))
  rw [if_pos (by decide)]
  refine wpAny_bind (appl hs pl pu ps ?_)
  have hno : ¬ ((((items.size : Int) - 1) == 0 && (-1 : Int) == 1 && items.size == items.size) = true) := by
    rw [show ((-1 : Int) == 1) = false from rfl, Bool.and_false, Bool.false_and]
    exact Bool.false_ne_true
  show wpAny _ _ (if ((((items.size : Int) - 1) == 0 && (-1 : Int) == 1 && items.size == items.size)) = true then _ else _) _ _ s
  rw [if_neg hno, pck]
  first
    | exact wpAny_bind (m := Builtin.Tuple.tupleExact _) (wpAny_newObj_type (wpAny_pure ⟨_, rfl, wpAny_pure h⟩) htk)
    | exact wpAny_bind (m := Builtin.Tuple.tupleExact _) (wpAny_newObj_type (wpAny_bind (wpAny_pure (wpAny_pure ⟨_, rfl, wpAny_pure h⟩))) htk)
    | exact wpAny_bind (wpAny_bind (m := Builtin.Tuple.tupleExact _) (wpAny_newObj_type (wpAny_pure (wpAny_pure ⟨_, rfl, wpAny_pure h⟩)) htk))
    | exact wpAny_bind (wpAny_bind (m := Builtin.Tuple.tupleExact _) (wpAny_newObj_type (wpAny_pure ⟨_, rfl, wpAny_pure h⟩) htk))
end
end Ak.RevT
namespace Ak
open PySem PySem.Spec PyProof.Rows L2
def tRevT (K : PySem.W.Frag) (te : TE) : TE := fun σ H Q => te σ H fun x G => ∃ b zs, x = .ref b ∧ SqT K G b zs ∧ ∀ q, G q = none → Q (.ref q) (upd G q (.tup zs.reverse))
theorem pe_revT {X : Cx} {e : Expr} {te : TE} {k : Nat} {p1 p2 p3 pos : Pos} (he : PE X e te) : PE X (.Subscript e (.Slice none none (some (.UnaryOp .USub (.Constant (.int 1) k p1) p2)) p3) pos) (tRevT X.K te) := by
  refine ⟨fun pins s σ H Q I h => ?_⟩
  refine Subscript_ (thn (he.run pins s σ H _ I h) fun v s1 ⟨x, G1, J1, rx, b, zs, ex, hz, q⟩ => ?_)
  subst ex
  cases rx
  have step : PO X (some (.UnaryOp .USub (.Constant (.int 1) k p1) p2)) (tPart (tUn (rU fun i => .int (-i)) (tC (.int 1)))) := po_some (pe_un un_neg pe_int)
  refine wpAny_Slice (thn (po_none.run pins s1 σ G1 (fun o G => o = none ∧ G = G1) J1 ⟨rfl, rfl⟩) fun vl s2 ⟨l, G2, J2, pl, el, e2⟩ => ?_)
  subst el e2
  refine thn (po_none.run pins s2 σ G2 (fun o G => o = none ∧ G = G2) J2 ⟨rfl, rfl⟩) fun vu s3 ⟨u, G3, J3, pu, eu, e3⟩ => ?_
  subst eu e3
  refine thn (step.run pins s3 σ G3 (fun o G => o = some (-1) ∧ G = G3) J3 ⟨1, rfl, -1, rfl, rfl, rfl⟩) fun vs s4 ⟨o, G4, J4, ps, eo, e4⟩ => ?_
  subst eo e4
  have J5 : Inv X pins σ G4 { s4 with heap := s4.heap.push { cls := .type "slice", data := .fields #[vl, vu, vs] } } := J4.kept (t' := s4.toks) fun b ob q => Heap.get?_push_of_some _ q
  obtain ⟨its, r, ht, hs⟩ := J5.tuple hz
  have hlen := r.length
  show wpAny (model X.prog X.w) X.A (subscriptTail e (.Slice none none (some (.UnaryOp .USub (.Constant (.int 1) k p1) p2)) p3) (.ref b) (.ref s4.heap.objs.size)) (EP X pins σ Q) X.xe { s4 with heap := s4.heap.push { cls := .type "slice", data := .fields #[vl, vu, vs] } }
  refine tail_any (ops := [.ref b, .ref s4.heap.objs.size]) ht.typeIs (PyProof.Rows.slot_tuple_getitem.lookup) ?_ (by with_unfolding_all rfl)
  refine RevT.getI ht (Heap.IsSliceOf.new _ vl vu vs) pl pu ps ?_ (by rw [List.size_toArray]; omega)
  refine ⟨.ref _, _, J5.laid (t' := s4.toks) (o := .tup zs.reverse) (fun b ob q => Heap.get?_push_of_some _ q) (Nat.le_refl _) ?_, rfl, q _ (J5.hok.fresh (Nat.le_refl _))⟩
  exact ⟨by rw [List.length_reverse]; exact hs, _, r.reverse, IsTup.new _ _⟩
end Ak
/-! rules of our own: n not in range(k); del xs[a:]; xs[i] += e -/
namespace Ak
open PySem PySem.Spec PyProof.Rows L2
section
variable {X : Cx}
theorem cr_range1 : CallR X (.type "range") (fun vs H Q => ∃ j, vs = [V.int j] ∧ ∀ p, H p = none → Q (.ref p) (upd H p (.rng 0 j))) := by
  intro pins s σ H vs us Q I r h
  obtain ⟨j, rfl, q⟩ := h
  cases r with
  | cons r1 rr =>
    cases rr
    obtain ⟨u, rfl⟩ := r1
    refine call_range_1 ⟨.ref s.heap.objs.size, upd H s.heap.objs.size (.rng 0 j), I.laid (t' := s.toks + 1 + 1) (fun b o e => Heap.get?_push_of_some _ e) (Nat.le_refl _) ?_, rfl, q _ (I.hok.fresh (Nat.le_refl _))⟩
    exact ⟨s.toks, u, s.toks + 1, Heap.get?_push_size _ rfl⟩
def rNotInRng : R2 := fun x y H Q => ∃ i a lo hi, x = V.int i ∧ y = V.ref a ∧ H a = some (.rng lo hi) ∧ Q (.bl (!decide (lo ≤ i ∧ i < hi))) H
theorem op_notIn_rng : OpR X (compareOp .NotIn) rNotInRng := by
  intro pins s σ H x y v u Q I rx ry h
  obtain ⟨i, a, lo, hi, rfl, rfl, ha, q⟩ := h
  obtain ⟨k, rfl⟩ := rx
  obtain rfl : u = Value.ref a := ry
  obtain ⟨t1, t2, t3, ho⟩ := I.hok a _ ha
  show wpAny _ _ (do return Value.bool !(← contains (Value.ref a) (Value.int i k))) _ _ s
  refine wpAny_bind (wpAny_contains_slot (T := "range") ⟨_, ho, rfl⟩ F.slot_range_contains (call_meets F.slot_range_contains ⟨_, ho, rfl⟩ F.entry_range_contains (F.args_range_contains_2 _ _) (q_contains a lo hi i t1 t2 t3 k)
    ⟨ho, wpAny_truthy_bool (wpAny_pure ⟨.bl _, H, I, rfl, ?_⟩)⟩))
  rw [place1]
  exact q
/-- xs == [], xs != [], whatever xs holds -/
def rEqNil (K : PySem.W.Frag) (neg : Bool) : R2 := fun x y H Q => ∃ a b xs, x = V.ref a ∧ y = V.ref b ∧ SqL K H a xs ∧ SqL K H b [] ∧ Q (.bl (if neg then !xs.isEmpty else xs.isEmpty)) H
theorem op_eqNil (hu : X.A.units + 64 < cLine) : OpR X (compareOp .Eq) (rEqNil X.K false) := by
  intro pins s σ H x y v u Q I rx ry h
  obtain ⟨a, b, xs, rfl, rfl, hx, hy, q⟩ := h
  cases rx
  cases ry
  obtain ⟨us, r1, p1, _⟩ := I.list hx
  obtain ⟨ws, r2, p2, _⟩ := I.list hy
  cases r2
  cases r1 with
  | nil => exact SeqAt.eq_listAt (e := fun _ => true) p1.isList p2.isList rfl (by omega) (fun j h1 _ => absurd h1 (Nat.not_lt_zero j)) ⟨.bl _, H, I, rfl, q⟩
  | cons _ _ => exact SeqAt.eq_list_lengthsAt p1.isList p2.isList (by simp) (by omega) ⟨.bl _, H, I, rfl, q⟩
theorem op_neNil (hu : X.A.units + 64 < cLine) : OpR X (compareOp .NotEq) (rEqNil X.K true) := by
  intro pins s σ H x y v u Q I rx ry h
  obtain ⟨a, b, xs, rfl, rfl, hx, hy, q⟩ := h
  cases rx
  cases ry
  obtain ⟨us, r1, p1, _⟩ := I.list hx
  obtain ⟨ws, r2, p2, _⟩ := I.list hy
  cases r2
  cases r1 with
  | nil => exact SeqAt.RcNeAt.lists (e := fun _ => true) p1.isList p2.isList rfl (by omega) (fun j h1 _ => absurd h1 (Nat.not_lt_zero j)) _ _ _ _ ⟨.bl _, H, I, rfl, q⟩
  | cons _ _ => exact SeqAt.RcNeAt.lists_lengths p1.isList p2.isList (by simp) (by omega) _ _ _ _ ⟨.bl _, H, I, rfl, q⟩
/-- xs[i] op= e: the read -/
theorem pget_list : PGet X (rIxL X.K) := by
  intro pins s σ H x y v u Q I rx ry h
  obtain ⟨p, xs, i, z, rfl, rfl, hq, he, q⟩ := h
  cases rx
  obtain ⟨t, rfl⟩ := ry
  obtain ⟨its, r, pl, hz⟩ := I.list hq
  obtain ⟨j, h1, h2, h3, h4, h5⟩ := atI_get he
  obtain ⟨w, ew, rw'⟩ := r.get h2
  have hl := r.length
  have hn := line63
  have fin : EP X pins σ Q w s := ⟨z, H, I, rw', q⟩
  by_cases h0 : 0 ≤ i
  · have hj : i.toNat = j := by
      rw [seqIndex_of h0 h5] at h1
      exact Option.some.inj h1
    exact wpAny_getItem_list pl.isList h0 (by omega) (by rw [hj]; simpa using ew) fin
  · have hj : (i + (its.toArray.size : Int)).toNat = j := by
      rw [seqIndex_neg (by omega) h4] at h1
      rw [List.size_toArray, ← hl]
      exact Option.some.inj h1
    exact wpAny_getItem_list_neg pl.isList (by omega) (by rw [List.size_toArray] <;> omega) (by omega) (by rw [hj]; simpa using ew) fin
end
section
def mySel (start stop step : Int) (i : Nat) : Bool :=
  if step > 0 then start ≤ i && i < stop && (i - start) % step == 0
  else stop < i && i ≤ start && (start - i) % (-step) == 0
def cutF (a b : Int) : Array Value → Array Value := fun xs => (xs.toList.zipIdx.filterMap fun (x, k) => if mySel a b 1 k then none else some x).toArray
theorem cut_ix {α : Type} : ∀ (l : List α) (k a n : Nat), k + l.length = n → (l.zipIdx k).filterMap (fun p => if mySel (a : Int) (n : Int) 1 p.2 then none else some p.1) = l.take (a - k)
  | [], k, a, n, _ => by simp
  | x :: l, k, a, n, h => by
    rw [List.zipIdx_cons, List.filterMap_cons]
    have ih := cut_ix l (k + 1) a n (by rw [List.length_cons] at h; omega)
    rw [List.length_cons] at h
    by_cases g : a ≤ k
    · have e : mySel (a : Int) (n : Int) 1 k = true := by
        unfold mySel
        rw [if_pos (by decide)]
        simp only [Bool.and_eq_true, decide_eq_true_eq, beq_iff_eq]
        exact ⟨⟨by omega, by omega⟩, Int.emod_one _⟩
      simp only [e, if_true]
      rw [ih, show a - (k + 1) = 0 by omega, show a - k = 0 by omega, List.take_zero, List.take_zero]
    · have e : mySel (a : Int) (n : Int) 1 k = false := by
        unfold mySel
        rw [if_pos (by decide)]
        have : decide ((a : Int) ≤ (k : Int)) = false := decide_eq_false (by omega)
        rw [this]; rfl
      simp only [e, Bool.false_eq_true, if_false]
      rw [ih, show a - k = (a - (k + 1)) + 1 by omega, List.take_succ_cons]
theorem bounds_from {a n : Nat} (ha : a ≤ n) : sliceBounds (some (a : Int)) none none n = ((a : Int), (n : Int), 1) := by
  simp only [sliceBounds, Option.getD_none]
  have p1 : ¬ ((a : Int) < 0) := by omega
  simp only [p1, if_false, show (1 : Int) > 0 by decide, if_true]
  congr 1
  omega
variable {prog : Program} {w : World} {A : Around} {E : Value → Shared → Prop} {s : Shared}
theorem del_cut {l sl : Addr} {xs0 : Array Value} {n : Nat} {vl : Value} {a : Nat} {Q : Unit → Shared → Prop}
    (e : s.heap.get? l = some { cls := .type "list", data := .seq xs0 n })
    (hs : s.heap.IsSliceOf sl vl .none .none) (pl : IsPart vl (some (a : Int))) (ha : a ≤ xs0.size) (hsz : xs0.size ≤ sizeLine)
    (h : Q () { s with heap := s.heap.update l (Obj.mapSeq (cutF (a : Int) (xs0.size : Int))) }) :
    wpAny (model prog w) A (delItem (.ref l) (.ref sl)) Q E s := by
  have hl : s.heap.IsList l xs0 := PySem.IsL.isList e
  obtain ⟨os, hos, hcs, hds⟩ := id hs
  have hT : s.TypeIs (.ref sl) "slice" := ⟨os, hos, hcs⟩
  have h0 : ¬ ((rawPart none == rawInt 0) = true) := Bool.false_ne_true
  have hz2 : (cutF (a : Int) (xs0.size : Int) xs0).size ≤ sizeLine + 1 := by
    have q : (cutF (a : Int) (xs0.size : Int) xs0) = (xs0.toList.take (a - 0)).toArray := by
      unfold cutF
      exact congrArg List.toArray (cut_ix xs0.toList 0 a xs0.size (by simp))
    rw [q, List.size_toArray, List.length_take, Array.length_toList]
    omega
  refine wpAny_delItem_slot hl.typeIs (by decide) F.slot_list_delitem (wpAny_call_entry F.slot_list_delitem hl.typeIs F.entry_list_delitem ?_ (F.args_list_delitem_2 _ _))
  show wpAny _ _ (Builtin.List.listSubscript? (.ref sl) >>= _) _ _ s
  refine wpAny_bind (by
    unfold Builtin.List.listSubscript?
    refine wpAny_bind (wpAny_specialOf hT slice_no_index ?_)
    simp only [Option.isNone_none, if_true]
    refine wpAny_pure ?_
    show wpAny _ _ (typeOf (.ref sl) >>= _) _ _ s
    refine wpAny_bind (wpAny_typeOf hT ?_)
    first | rw [if_neg (by decide)] | refine PySem.W.KFB.if_not (by decide) ?_
    rw [listSliceParts_eq]
    refine wpAny_bind (wpAny_bind (wpAny_field hos hds (x := .none) rfl (wpAny_bind (wpAny_listPart .none ?_))))
    rw [if_neg h0]
    refine wpAny_bind (wpAny_field hos hds (x := vl) rfl (wpAny_bind (wpAny_listPart pl (wpAny_bind (wpAny_field hos hds (x := .none) rfl (wpAny_bind (wpAny_listPart .none (wpAny_pure ?_))))))))
    refine wpAny_bind (m := Builtin.List.listItems (.ref l)) (by
      unfold Builtin.List.listItems
      refine wpAny_bind (wpAny_seqItems e rfl (wpAny_pure ?_))
      refine wpAny_bind (wpAny_of_eq ((sliceIndices_raw (some (a : Int)) none none xs0.size (by simp)).trans (congrArg (pure : Int × Int × Int → Sem (Int × Int × Int)) (bounds_from ha))) ?_)
      refine wpAny_bind (wpAny_rule ?_)
      show wpAny _ _ (updateSeq l (cutF (a : Int) (xs0.size : Int)) >>= _) _ _ s
      refine wpAny_bind (wpAny_updateSeq (hz := hsz) (_hz' := hz2) e rfl (wpAny_bind (wpAny_letGo ?_)))
      exact wpAny_pure ⟨.none, rfl, h⟩))
/-- del o[a:] -/
def tDelSlc (to tl : TE) : TS := fun D σ H => to σ H fun x H1 => tl σ H1 fun y H2 => ∃ (l : Addr) (xs : List V) (a : Nat), x = .ref l ∧ y = .int (a : Int) ∧ H2 l = some (.lst xs) ∧ a ≤ xs.length ∧ D.nx σ (upd H2 l (.lst (xs.take a)))
theorem ps_delSlc {X : Cx} {o lo : Expr} {p2 pos tpos : Pos} {to tl : TE} (ho : PE X o to) (hl : PE X lo tl) : PS X (.Delete [.Subscript o (.Slice (some lo) none none p2) tpos] pos) (tDelSlc to tl) := by
  refine ⟨fun pins s σ H D I h => ?_⟩
  refine wpAny_Delete (wpAny_deleteEach_cons (wpAny_delete_Subscript (thn (ho.run pins s σ H _ I h) fun u s1 ⟨x, H1, I1, rx, q1⟩ => wpAny_Slice ?_)))
  refine thn (hl.run pins s1 σ H1 _ I1 q1) fun vl s2 ⟨y, H2, I2, ry, q2⟩ => ?_
  obtain ⟨l, xs, a, rfl, rfl, hx, ha, q⟩ := q2
  rw [evalPart_none]
  refine wpAny_pure ?_
  refine wpAny_pure ?_
  have I4 : Inv X pins σ H2 { s2 with heap := s2.heap.push { cls := .type "slice", data := .fields #[vl, .none, .none] } } := I2.kept (t' := s2.toks) fun b ob q => Heap.get?_push_of_some _ q
  cases rx
  obtain ⟨t, rfl⟩ := (show ∃ t, vl = Value.int (a : Int) t from ry)
  obtain ⟨z, its, n, rr, hl1, e⟩ := I4.lstM hx
  have lx := rr.length
  refine del_cut (a := a) e (Heap.IsSliceOf.new ..) (.int _ _) (by rw [List.size_toArray]; omega) (by rw [List.size_toArray]; omega) ?_
  refine wpAny_deleteEach_nil ⟨σ, _, I4.lset (its' := its.take a) (t' := s2.toks) hx e ?_ (rr.take _) (by rw [List.length_take]; omega), q⟩
  unfold cutF
  have := cut_ix its 0 a its.length (by simp)
  rw [List.size_toArray]
  exact congrArg List.toArray this
end
end Ak
/-! rules of our own: list(d.values()); xs != ys of equal tuples, of lists of the same items -/
namespace Ak
open PySem PySem.Spec PyProof.Rows L2
section
variable {prog : Program} {w : World}
open AutoSeq1 (wpAny_loadPart')
open PySem.MeetsSeq PySem.MeetsSeq2 PySem.MeetsSeq3 PySem.SeqRoads2
theorem tup_eq_ne (l b : Addr) (us ws : Array Value) (n m : Nat) (dl db : Option Addr) (kl kb : Array (Option Value)) (hz : us.size = ws.size) :
    MeetsIn prog w (Builtin.«tuple.__ne__» ⟨[.ref l, .ref b], []⟩) (fun A R s =>
      (s.heap.get? l = some { cls := .type "tuple", dict := dl, data := .seq us n, slots := kl } ∧ s.heap.get? b = some { cls := .type "tuple", dict := db, data := .seq ws m, slots := kb }) ∧
        (∀ j (h1 : j < us.size) (h2 : j < ws.size), SeqAt.EqP prog w A.in1 s us[j] ws[j] true) ∧ R (.ok (.ret (.bool false))) s) := by
  refine .of_wp fun A R s h => ?_
  obtain ⟨hp, g, d, tk, os⟩ := s
  obtain ⟨⟨e1, e2⟩, he, q⟩ := h
  have sub := AutoSeq1.sub_tuple_tuple
  have len : (us.toList.zip ws.toList).length = us.size := by simp [hz]
  wp_walk using wpAny_loadPart' e1, wpAny_loadPart' e2
  refine wpAny_forIn_list _ (fun rest c s' => (c.1 = none ∧ s' = ⟨hp, g, d, tk, os⟩) ∧ ∃ i, rest = (us.toList.zip ws.toList).drop i) _ ?tu ?fi _ _ ?st
  case tu =>
    rintro ⟨y, x⟩ rest c s' ⟨⟨ec, rfl⟩, i, hr⟩
    have hi : i < (us.toList.zip ws.toList).length := by
      apply Nat.lt_of_not_le
      intro g'
      rw [List.drop_of_length_le g'] at hr
      cases hr
    rw [List.drop_eq_getElem_cons hi] at hr
    injection hr with hyx hrest
    have hi1 : i < us.size := by omega
    have hi2 : i < ws.size := by omega
    obtain rfl : y = us[i] := by simpa using congrArg Prod.fst hyx
    obtain rfl : x = ws[i] := by simpa using congrArg Prod.snd hyx
    refine wpAny_bind (he i hi1 hi2 _ _ ?_)
    wp_walk
    exact ⟨⟨rfl, rfl⟩, i + 1, hrest⟩
  case fi =>
    rintro ⟨c1, c2⟩ s' ⟨⟨ec, rfl⟩, i, hr⟩
    simp only at ec
    subst ec
    wp_walk
    exact ⟨_, rfl, by simpa [Builtin.Tuple.tupleCompareSizes, bne, hz] using q⟩
  case st => exact ⟨⟨rfl, rfl⟩, 0, rfl⟩
theorem ne_tups {A : Around} {s : Shared} {l b : Addr} {us ws : Array Value} (hl : s.heap.IsTuple l us) (hb : s.heap.IsTuple b ws) (hz : us.size = ws.size) (hu : A.units < cLine) (he : ∀ j (h1 : j < us.size) (h2 : j < ws.size), SeqAt.EqP prog w A.in1 s us[j] ws[j] true)
    (E Q : Value → Shared → Prop) (q : Q (.bool false) s) : wpAny (model prog w) A (richCompare .NotEq (.ref l) (.ref b)) Q E s := by
  obtain ⟨⟨c1, d1, x1, k1⟩, o1, rfl, n1, rfl⟩ := hl
  obtain ⟨⟨c2, d2, x2, k2⟩, o2, rfl, n2, rfl⟩ := hb
  have t1 : s.TypeIs (.ref l) "tuple" := ⟨_, o1, rfl⟩
  exact wpAny_richCompare_same_room (op := .NotEq) t1 ⟨_, o2, rfl⟩ F.slot_tuple_ne (call_meetsIn F.slot_tuple_ne t1 F.entry_tuple_ne (F.args_tuple_ne_2 _ _) (tup_eq_ne l b us ws n1 n2 d1 d2 k1 k2 hz) ⟨⟨o1, o2⟩, he, (show Value.bool false ≠ Value.notImplemented ∧ Q (.bool false) s from ⟨(fun z => nomatch z), q⟩)⟩) hu
end
section
variable {X : Cx}
/-- x != y, two tuples whose items are equal -/
def rNeTup (K : PySem.W.Frag) : R2 := fun x y H Q => ∃ n a b xs ys, n ≤ 60 ∧ x = V.ref a ∧ y = V.ref b ∧ SqT K H a xs ∧ SqT K H b ys ∧ Paired (EqV K H n) xs ys ∧ Q (.bl false) H
theorem op_neTup (hu : X.A.units + 64 < cLine) : OpR X (compareOp .NotEq) (rNeTup X.K) := by
  intro pins s σ H x y v u Q I rx ry h
  obtain ⟨n, a, b, xs, ys, hn, rfl, rfl, ha, hb, pr, q⟩ := h
  cases rx
  cases ry
  obtain ⟨us, r1, p1, _⟩ := I.tuple ha
  obtain ⟨ws, r2, p2, _⟩ := I.tuple hb
  have hz : us.toArray.size = ws.toArray.size := by
    rw [List.size_toArray, List.size_toArray, ← r1.length, ← r2.length]; exact Paired.length pr
  refine ne_tups p1 p2 hz (by omega) (fun j h1 h2 => ?_) _ _ ⟨.bl false, H, I, rfl, q⟩
  have := items_run (eqV_run I n X.A.in1 (by show X.A.units + 1 + n < cLine; omega)) pr r1 r2 j (by simpa using h1) (by simpa using h2)
  simpa using this
/-- xs != ys, two lists of the same things -/
def rNeRefs (K : PySem.W.Frag) : R2 := fun x y H Q => ∃ a b xs, x = V.ref a ∧ y = V.ref b ∧ SqL K H a xs ∧ SqL K H b xs ∧ (∀ v ∈ xs, ∃ p, v = V.ref p) ∧ Q (.bl false) H
theorem vals_refs_eq : ∀ {xs : List V} {us ws : List Value}, (∀ v ∈ xs, ∃ p, v = V.ref p) → Vals xs us → Vals xs ws → us = ws
  | _, _, _, _, .nil, .nil => rfl
  | _, _, _, h, .cons h1 t1, .cons h2 t2 => by
    obtain ⟨p, rfl⟩ := h _ List.mem_cons_self
    cases h1
    cases h2
    rw [vals_refs_eq (fun v hv => h v (List.mem_cons_of_mem _ hv)) t1 t2]
theorem op_neRefs (hu : X.A.units + 64 < cLine) : OpR X (compareOp .NotEq) (rNeRefs X.K) := by
  intro pins s σ H x y v u Q I rx ry h
  obtain ⟨a, b, xs, rfl, rfl, hx, hy, hr, q⟩ := h
  cases rx
  cases ry
  obtain ⟨us, r1, p1, _⟩ := I.list hx
  obtain ⟨ws, r2, p2, _⟩ := I.list hy
  obtain rfl := vals_refs_eq hr r1 r2
  have := SeqAt.RcNeAt.lists (A := X.A) (e := fun _ => true) p1.isList p2.isList rfl (by omega) (fun j h1 h2 => by
    have : (us.toArray[j]) = us[j]'(by simpa using h1) := by simp
    exact SeqAt.EqAt.same _) X.prog X.w X.xe (EP X pins σ Q)
  exact this (by
    rw [show ((List.range us.toArray.size).all fun _ => true) = true from List.all_eq_true.mpr fun _ _ => rfl]
    exact ⟨.bl false, H, I, rfl, q⟩)
/-- list(d.values()) -/
def rListV : V → Hp → VK → Prop := fun x H Q => ∃ d kvs, x = .ref d ∧ H d = some (.dK kvs) ∧ ∀ q, H q = none → Q (.ref q) (upd H q (.lst (kvs.map (·.2))))
def tListV (te : TE) : TE := fun σ H Q => te σ H fun x H1 => rListV x H1 Q
variable {e : Expr} {te : TE} {p apos cpos pos : Pos}
theorem pe_listV (hc : X.calm = true) (he : PE X e te) (hg : Gl X "list") (hm : X.mg "list" = none) (hb : attributeBase e "values" X.env (eval e X.env) = eval e X.env := by rfl) (hl : (apos.endLine == cpos.line) = true := by rfl)
    (hs : starEach [.Call (.Attribute e "values" apos) [] [] cpos] X.env = (false, eval (.Call (.Attribute e "values" apos) [] [] cpos) X.env) :: starEach [] X.env := by rfl) :
    PE X (.Call (.Name "list" p) [.Call (.Attribute e "values" apos) [] [] cpos] [] pos) (tListV te) := by
  refine ⟨fun pins s σ H Q I hq => ?_⟩
  refine wpAny_Call_Name_kw (ld_blt I hg hm boot_list (PyProof.Rows.callWith_type1 ?_ hs rfl))
  rw [hs]
  refine Calls.spliced_cons ?_
  refine wpAny_Call_method (T := "dict") (id := "dict.values") hb rfl hl F.plainAttrs_dict F.slot_dict_values F.type_dict_values (thn (he.run pins s σ H _ I hq) fun u s1 ⟨x, H1, I1, rx, d, kvs, ex, hd, q⟩ => ?_)
  subst ex
  cases rx
  obtain ⟨z, lo, vs, kv, hdo⟩ := I1.hok d _ hd
  obtain ⟨ep, hat⟩ := hdo.dictAt
  have ll : kvs.length = vs.length := Paired.length kv
  refine ⟨hdo.typeIs, hdo.mapOf.noDict, method_meetsIn F.slot_dict_values F.entry_dict_values rfl (PySem.evalArgs_none ⟨rfl, hdo.typeIs, F.args_dict_values_1 _, _, meets_dict_values (mixKind X.prog X.w) d lo, ⟨vs, hdo⟩, ?_⟩)⟩
  have I2 : Inv X pins σ H1 { s1 with heap := s1.heap.push { cls := .type "dict_values", data := .fields #[.ref d] } } := I1.kept (t' := s1.toks) fun b o y => Heap.get?_push_of_some _ y
  refine Calls.spliced_nil ?_
  refine PySem.W.kdl_call (PySem.W.kdl_values (knd := mixKind X.prog X.w) (kvs := vs) (ep := ep)) (I1.ok.hd hc) ⟨⟨_, Heap.get?_push_size _ rfl, rfl, rfl⟩, hat.push _⟩ (by rw [← ll]; exact z) fun h' tk acc c hk hS ha => ?_
  refine ⟨.ref (s1.heap.push { cls := .type "dict_values", data := .fields #[.ref d] }).objs.size, upd H1 _ (.lst (kvs.map (·.2))), I2.laid hk (Nat.le_refl _) (show ObjOk X.prog X.w _ _ _ (.lst (kvs.map (·.2))) from ⟨?_, acc.toList, c, ?_, ?_⟩), rfl, q _ (I2.hok.fresh (Nat.le_refl _))⟩
  · rw [List.length_map]; exact z
  · have el : acc.toList.length = acc.size := by simp
    refine vals_of_at (by rw [List.length_map, el, ha.1, ll]) fun j x w h1 h2 => ?_
    obtain ⟨k, hk2⟩ := ha.2 j w (by rw [← Array.getElem?_toList]; exact h2)
    rw [List.getElem?_map] at h1
    cases e1 : kvs[j]? with
    | none => rw [e1] at h1; cases h1
    | some pk =>
      rw [e1] at h1
      obtain ⟨y, e2, _, e3⟩ := LiI.paired_get kv e1
      rw [hk2] at e2
      cases e2
      cases h1
      exact e3
  · rw [Array.toArray_toList]; exact hS
/-! ### y = {k: v for ..} -/
theorem sw_trueD {kx vx : Expr} {gs : List Comprehension} {sc : Scope} {p q : Pos} {y : Str} {l : Nat} {env : Env} (a1 : env.scope.kind = .function) (a2 : env.scope.names.lookup y = some .local) (a3 : (q.line == p.line) = true)
    (a4 : (sc.names.any fun (n, k) => n == y && (k == .local || k == .cell)) = false) : swapsWith (.DictComp kx vx gs sc p) (some (.Name y q)) l env = pure true := by
  have b1 : env.kindOf y = some .local := a2
  have b2 : env.blockKind = .function := by
    unfold Env.blockKind
    rw [a1]; rfl
  unfold swapsWith
  simp only [b2, b1, a4, Expr.pos, a3]
  rfl
theorem ps_setDc {i : Nat} {y : Str} {py : Pos} {kx vx tg iter : Expr} {ifs : List Expr} {sc : Scope} {own : List (Str × Nat)} {p1 p2 : Pos} {wi : TI} {g : TG} {tt : TT} {tk tv : TE} (hc : X.calm = true) (hN : X.N.Nodup) (hy : X.N[i]? = some y) (hyl : X.env.scope.names.lookup y = some .local)
    (sw : swapsWith (.DictComp kx vx [⟨tg, iter, ifs, 0⟩] sc p1) (some (.Name y py)) p2.line X.env = pure true) (hi : PI X tg iter wi) (ok : BlkOk X.N X.env.scope sc own)
    (hg : ∀ (s : Shared) (H : Hp) (C : Addr) (cl : List (Str × Addr)) (fp : List Addr), PG (X.blk s H sc (compEnvC sc cl C X.env) fp) tg g) (ht : ∀ (s : Shared) (H : Hp) (C : Addr) (cl : List (Str × Addr)) (fp : List Addr), PTs (X.blk s H sc (compEnvC sc cl C X.env) fp) ifs tt)
    (hk : ∀ (s : Shared) (H : Hp) (C : Addr) (cl : List (Str × Addr)) (fp : List Addr), PE (X.blk s H sc (compEnvC sc cl C X.env) fp) kx tk)
    (he : ∀ (s : Shared) (H : Hp) (C : Addr) (cl : List (Str × Addr)) (fp : List Addr), PE (X.blk s H sc (compEnvC sc cl C X.env) fp) vx tv) (hs : ∀ x, foldedSetIterable iter X.env x = pure x := by intro _; rfl) :
    PS X (.Assign [.Name y py] (.DictComp kx vx [⟨tg, iter, ifs, 0⟩] sc p1) p2) (tAsg (tDc wi g tt tk tv (own.map (·.2))) (gName i)) := by
  refine ⟨fun pins s σ H D I h => ?_⟩
  rw [exec_Assign_Name_used _ _ _ _ sw]
  refine wpAny_bind (wpAny_standAt (wpAny_bind ?_))
  show wpAny _ X.A (do let _ ← comprehension (.DictComp kx vx [⟨tg, iter, ifs, 0⟩] sc p1) sc X.env (firstIterPos [⟨tg, iter, ifs, 0⟩] p1) newDict false (eval iter X.env) (some (assign (.Name y py) X.env))) _ _ s
  refine wpAny_bind (thn (dc_core (Qf := fun _ s' => SP X pins D .next s') hc hN I hi ok hg ht hk he hs (show tDc wi g tt tk tv (own.map (·.2)) σ H (fun x H1 => gName i x σ H1 D.nx) from h) fun L C s' m H' I' q hn f => ?_) fun _ s' z => wpAny_pure (wpAny_pure z))
  obtain ⟨f0, f1, f2, f3, f4, f5⟩ := f
  refine wpAny_assign_Name (store_ok2 (v := V.ref L) I' hN hy (.inl hyl) rfl (fun s2 I2 ⟨a, sb, ha⟩ => ⟨m, hn.sameBut sb ?_, fun h3 sb3 => ⟨_, H', I2.turned (t' := s2.toks) (fun b o hb e => (sb3.2 b hb).trans e) f0 f1 f3 f4 f5, q⟩⟩) (.inr hyl))
  rcases ha with z | z
  · rw [z]; exact f1
  · exact fun e => f4 y a z e.symm
end
end Ak
namespace Ak
open PySem L2
def top (i : Nat) : Stmt := PySem.Challenge.pw_askladder_k64_one_book_two_programs.main.body.getD i (.Pass ⟨0, 0, 0, 0⟩)
end Ak
namespace Ak
open PySem L2
local macro_rules | `(tactic| walk_at "no attr") => `(tactic| exact rwF_no _ _ _ (by decide +kernel) (by decide +kernel) (by decide +kernel))
/-! ### books: what stands, what may come -/
inductive BR where
  | keep (k : Str) | ended (k : Str) | ask (q : Str) (n : Int) | go (j : Int) | tell (v : Int)
def BR.d : BR → D
  | .keep k => .t [.s "keep", .s k]
  | .ended k => .t [.s "ended", .s k]
  | .ask q n => .t [.s "ask", .s q, .i n]
  | .go j => .t [.s "go", .i j]
  | .tell v => .t [.s "tell", .i v]
abbrev HM := List (Str × List Str)
def getH (m : HM) (k : Str) : Option (List Str) := (m.find? fun p => decide (p.1 = k)).map (·.2)
def putH (m : HM) (k : Str) (q : List Str) : HM := if (m.any fun p => decide (p.1 = k)) = true then m.map (fun p => if p.1 = k then (p.1, q) else p) else m ++ [(k, q)]
def hrs (m : HM) (q k : Str) : Bool := match getH m k with | some qs => decide (q ∈ qs) | none => false
structure BS where
  st : List Str
  hs : List (List Str)
def letsB (m : HM) (s : BS) : BR → Bool
  | .keep k => (getH m k).isSome
  | .ended k => decide (s.st.getLast? = some k)
  | .ask q n => decide (0 ≤ n ∧ n < (s.st.length : Int)) && (hrs m q (s.st[n.toNat]?.getD Str.empty) && !(s.st.drop (n.toNat + 1)).any (hrs m q))
  | .go j => decide (0 ≤ j ∧ j < (s.hs.length : Int))
  | .tell v => decide (0 ≤ v ∧ v ≤ 999999999)
def stepB (s : BS) : BR → BS
  | .keep k => ⟨s.st ++ [k], s.hs⟩
  | .ended _ => ⟨s.st.dropLast, s.hs⟩
  | .ask _ n => ⟨s.st.take n.toNat, s.hs ++ [s.st.drop n.toNat]⟩
  | .go j => ⟨s.st ++ s.hs[j.toNat]?.getD [], s.hs⟩
  | .tell _ => s
/-- the first row that may not come, numbered from i -/
def firstW (m : HM) : BS → List BR → Nat → Option Nat
  | _, [], _ => none
  | s, r :: rs, i => if letsB m s r = true then firstW m (stepB s r) rs (i + 1) else some i
/-- behind rows that all may come -/
def runB (s : BS) (rs : List BR) : BS := rs.foldl stepB s
def MX : Nat := 8000000
/-- nowhere on the way does too much stand -/
def RoomW (m : HM) : BS → List BR → Prop
  | s, [] => s.st.length ≤ MX
  | s, r :: rs => s.st.length ≤ MX ∧ (letsB m s r = true → RoomW m (stepB s r) rs)
theorem RoomW.st {m : HM} {s : BS} {rs : List BR} (h : RoomW m s rs) : s.st.length ≤ MX := by
  cases rs with
  | nil => exact h
  | cons r rs => exact h.1
/-- all that stands and is held is known -/
def KnS (m : HM) (s : BS) : Prop := (∀ k ∈ s.st, (getH m k).isSome = true) ∧ ∀ h ∈ s.hs, ∀ k ∈ h, (getH m k).isSome = true
theorem KnS.step {m : HM} {s : BS} {r : BR} (h : KnS m s) (hl : letsB m s r = true) : KnS m (stepB s r) := by
  obtain ⟨h1, h2⟩ := h
  cases r with
  | keep k => exact ⟨(fun x hx => (List.mem_append.mp hx).elim (h1 x) fun hx => by rw [List.mem_singleton.mp hx]; exact hl), h2⟩
  | ended k => exact ⟨fun x hx => h1 x (List.dropLast_subset _ hx), h2⟩
  | ask q n => exact ⟨fun x hx => h1 x (List.mem_of_mem_take hx), fun g hg => (List.mem_append.mp hg).elim (h2 g) fun hg => by rw [List.mem_singleton.mp hg]; exact fun x hx => h1 x (List.mem_of_mem_drop hx)⟩
  | go j =>
    refine ⟨fun x hx => ?_, h2⟩
    rcases List.mem_append.mp hx with hx | hx
    · exact h1 x hx
    · cases e : s.hs[j.toNat]? with
      | none => rw [e] at hx; cases hx
      | some g => rw [e] at hx; exact h2 g (List.mem_of_getElem? e) x hx
  | tell v => exact ⟨h1, h2⟩
theorem KnS.nil (m : HM) : KnS m ⟨[], []⟩ := ⟨(fun _ z => nomatch z), (fun _ z => nomatch z)⟩
/-! ### the places at which p holds -/
def ixs (p : Str → Bool) : List Str → Nat → List Nat
  | [], _ => []
  | x :: r, k => if p x = true then k :: ixs p r (k + 1) else ixs p r (k + 1)
theorem ixs_app (p : Str → Bool) : ∀ (a b : List Str) (k : Nat), ixs p (a ++ b) k = ixs p a k ++ ixs p b (k + a.length)
  | [], b, k => by simp [ixs]
  | x :: a, b, k => by
    rw [List.cons_append, ixs, ixs, ixs_app p a b (k + 1), List.length_cons, show k + 1 + a.length = k + (a.length + 1) by omega]
    split <;> rfl
theorem ixs_snoc (p : Str → Bool) (a : List Str) (x : Str) (k : Nat) : ixs p (a ++ [x]) k = ixs p a k ++ if p x = true then [k + a.length] else [] := by
  rw [ixs_app]; rfl
theorem ixs_none {p : Str → Bool} : ∀ {l : List Str} {k : Nat}, l.any p = false → ixs p l k = []
  | [], _, _ => rfl
  | x :: r, k, h => by
    rw [List.any_cons, Bool.or_eq_false_iff] at h
    rw [ixs, if_neg (by rw [h.1]; decide), ixs_none h.2]
theorem ixs_len (p : Str → Bool) : ∀ (l : List Str) (k : Nat), (ixs p l k).length ≤ l.length
  | [], _ => Nat.le_refl _
  | x :: r, k => by
    rw [ixs]
    have := ixs_len p r (k + 1)
    split <;> simp only [List.length_cons] <;> omega
theorem last_split {p : Str → Bool} : ∀ {l : List Str}, l.any p = true → ∃ a x b, l = a ++ x :: b ∧ p x = true ∧ b.any p = false
  | [], h => by simp at h
  | y :: r, h => by
    cases e : r.any p with
    | true =>
      obtain ⟨a, x, b, rfl, h1, h2⟩ := last_split e
      exact ⟨y :: a, x, b, rfl, h1, h2⟩
    | false =>
      rw [List.any_cons, e, Bool.or_false] at h
      exact ⟨[], y, r, rfl, h, e⟩
theorem ixs_split {p : Str → Bool} {a b : List Str} {x : Str} {k : Nat} (h1 : p x = true) (h2 : b.any p = false) : ixs p (a ++ x :: b) k = ixs p a k ++ [k + a.length] := by
  rw [ixs_app, ixs, if_pos h1, ixs_none h2]
/-- an ask may come just where the last place is its own -/
theorem ask_ix {m : HM} {s : BS} {q : Str} {n : Int} : (ixs (hrs m q) s.st 0 = [] ∧ letsB m s (.ask q n) = false) ∨ ∃ us k, ixs (hrs m q) s.st 0 = us ++ [k] ∧ k < s.st.length ∧ (letsB m s (.ask q n) = decide ((k : Int) = n)) := by
  cases e : s.st.any (hrs m q) with
  | false =>
    refine .inl ⟨ixs_none e, ?_⟩
    show (_ && _) = false
    by_cases hn : 0 ≤ n ∧ n < (s.st.length : Int)
    · have hi : n.toNat < s.st.length := by omega
      rw [List.getElem?_eq_getElem hi, Option.getD_some]
      have := List.any_eq_false.mp e _ (List.getElem_mem hi)
      simp only [Bool.not_eq_true] at this
      rw [this, Bool.false_and, Bool.and_false]
    · rw [decide_eq_false hn, Bool.false_and]
  | true =>
    obtain ⟨a, x, b, el, h1, h2⟩ := last_split e
    refine .inr ⟨ixs (hrs m q) a 0, 0 + a.length, by rw [el, ixs_split h1 h2], by rw [el, List.length_append, List.length_cons]; omega, ?_⟩
    show (decide (0 ≤ n ∧ n < (s.st.length : Int)) && (hrs m q (s.st[n.toNat]?.getD Str.empty) && !(s.st.drop (n.toNat + 1)).any (hrs m q))) = _
    rw [el]
    have hlen : (a ++ x :: b).length = a.length + (b.length + 1) := by rw [List.length_append, List.length_cons]
    by_cases hn : ((0 + a.length : Nat) : Int) = n
    · have hm : n.toNat = a.length := by omega
      rw [decide_eq_true hn, decide_eq_true (show 0 ≤ n ∧ n < ((a ++ x :: b).length : Int) by rw [hlen]; omega), hm, List.getElem?_append_right (Nat.le_refl _), Nat.sub_self, List.getElem?_cons_zero, Option.getD_some, h1]
      have : (a ++ x :: b).drop (a.length + 1) = b := by rw [List.drop_append]; simp
      rw [this, h2]; rfl
    · rw [decide_eq_false hn]
      by_cases hb : 0 ≤ n ∧ n < ((a ++ x :: b).length : Int)
      · rw [decide_eq_true hb, Bool.true_and]
        rcases Nat.lt_or_gt_of_ne (show n.toNat ≠ a.length by omega) with g | g
        · have : ((a ++ x :: b).drop (n.toNat + 1)).any (hrs m q) = true := by
            rw [List.any_eq_true]
            refine ⟨x, ?_, h1⟩
            rw [List.drop_append, List.mem_append]
            right
            rw [show n.toNat + 1 - a.length = 0 by omega]
            exact List.mem_cons_self
          rw [this, Bool.not_true, Bool.and_false]
        · obtain ⟨j, hj⟩ : ∃ j, n.toNat = a.length + (j + 1) := ⟨n.toNat - a.length - 1, by omega⟩
          have hjb : j < b.length := by omega
          rw [hj, List.getElem?_append_right (by omega), Nat.add_sub_cancel_left, List.getElem?_cons_succ, List.getElem?_eq_getElem hjb, Option.getD_some]
          have := List.any_eq_false.mp h2 _ (List.getElem_mem hjb)
          simp only [Bool.not_eq_true] at this
          rw [this, Bool.false_and]
      · rw [decide_eq_false hb, Bool.false_and]
/-! ### how much stands -/
def isGo : BR → Bool | .go _ => true | _ => false
theorem room_go {m : HM} : ∀ (rs : List BR) (s : BS) (M : Nat), s.st.length ≤ M → (∀ h ∈ s.hs, h.length ≤ M) → 1 ≤ M → M * 2 ^ ((rs.filter isGo).length) + rs.length * 2 ^ ((rs.filter isGo).length) ≤ MX → RoomW m s rs
  | [], s, M, h, _, _, b => by
    show s.st.length ≤ MX
    simp at b; omega
  | r :: rs, s, M, h1, h2, h0, b => by
    have one : ∀ k : Nat, 1 ≤ 2 ^ k := fun k => Nat.one_le_two_pow
    have key : ∀ N g : Nat, 1 ≤ g → M ≤ MX → N * g ≤ MX → N ≤ MX := fun N g h _ h3 => Nat.le_trans (Nat.le_mul_of_pos_right _ h) h3
    have hM : M ≤ MX := by
      have p := one ((List.filter isGo (r :: rs)).length)
      have : M ≤ M * 2 ^ ((List.filter isGo (r :: rs)).length) := Nat.le_mul_of_pos_right _ p
      omega
    refine ⟨by omega, fun hl => ?_⟩
    cases r with
    | keep k =>
      refine room_go rs _ (M + 1) (by show (s.st ++ [k]).length ≤ _; rw [List.length_append]; simp; omega) (fun h hh => by have := h2 h hh; omega) (by omega) ?_
      simp only [List.filter_cons, List.length_cons] at b
      rw [if_neg (by show ¬ false = true; decide)] at b
      rw [Nat.add_mul] at b
      rw [Nat.add_mul]
      omega
    | ended k =>
      refine room_go rs _ M (by show s.st.dropLast.length ≤ _; rw [List.length_dropLast]; omega) h2 h0 ?_
      simp only [List.filter_cons, List.length_cons] at b
      rw [if_neg (by show ¬ false = true; decide)] at b
      rw [Nat.add_mul _ 1] at b
      omega
    | ask q n =>
      refine room_go rs _ M (by show (s.st.take _).length ≤ _; rw [List.length_take]; omega) (fun h hh => ?_) h0 ?_
      · rcases List.mem_append.mp hh with hh | hh
        · exact h2 h hh
        · rw [List.mem_singleton.mp hh, List.length_drop]; omega
      simp only [List.filter_cons, List.length_cons] at b
      rw [if_neg (by show ¬ false = true; decide)] at b
      rw [Nat.add_mul _ 1] at b
      omega
    | go j =>
      refine room_go rs _ (2 * M) ?_ (fun h hh => by have := h2 h hh; omega) (by omega) ?_
      · show (s.st ++ s.hs[j.toNat]?.getD []).length ≤ _
        rw [List.length_append]
        cases e : s.hs[j.toNat]? with
        | none => simp; omega
        | some g => have := h2 g (List.mem_of_getElem? e); rw [Option.getD_some]; omega
      simp only [List.filter_cons, List.length_cons] at b
      rw [if_pos (show isGo (.go j) = true from rfl), List.length_cons, Nat.pow_succ] at b
      generalize 2 ^ _ = X at b ⊢
      have e1 : M * (X * 2) = 2 * M * X := by rw [Nat.mul_comm X 2, ← Nat.mul_assoc, Nat.mul_comm M 2]
      have e2 : (rs.length + 1) * (X * 2) = rs.length * X * 2 + X * 2 := by rw [Nat.add_mul, Nat.mul_assoc, Nat.one_mul]
      omega
    | tell v =>
      refine room_go rs _ M h1 h2 h0 ?_
      simp only [List.filter_cons, List.length_cons] at b
      rw [if_neg (by show ¬ false = true; decide)] at b
      rw [Nat.add_mul _ 1] at b
      omega
end Ak
namespace Ak
open PySem L2
local macro_rules | `(tactic| walk_at "no attr") => `(tactic| exact rwF_no _ _ _ (by decide +kernel) (by decide +kernel) (by decide +kernel))
/-! ### programs by their heads -/
abbrev st_l_heard : Stmt := top 19
theorem sc_l_heard : FnScope ["_law_program", "_law_found", "_law_keeper", "_law_hear"] ["_law_program"] (defScope st_l_heard) := ⟨rfl, rfl, rfl, by decide +kernel, rfl, by decide +kernel, by decide +kernel⟩
abbrev st_l_goes : Stmt := top 20
theorem sc_l_goes : FnScope ["_law_heard_here", "_law_stands", "_law_holds", "_law_row_here", "_law_some", "_law_k", "_law_name"] ["_law_heard_here", "_law_stands", "_law_holds", "_law_row_here"] (defScope st_l_goes) := ⟨rfl, rfl, rfl, by decide +kernel, rfl, by decide +kernel, by decide +kernel⟩
def rowD (p : Str × List D) : D := .t (.s p.1 :: p.2)
structure KpR where
  n : Str
  (a b c e : D)
  hs : List (Str × List D)
def KpR.d (k : KpR) : D := .t [.s k.n, k.a, k.b, k.c, k.e, .t (k.hs.map rowD)]
structure Hou where
  as : List (Str × List D)
  ks : List KpR
  fs : List (Str × List D)
def Hou.d (h : Hou) : D := .t [.t (h.as.map rowD), .t (h.ks.map KpR.d), .t (h.fs.map rowD)]
def hdK (ks : List KpR) : HM := ks.foldl (fun m k => putH m k.n (k.hs.map (·.1))) []
def Hou.m (h : Hou) : HM := hdK h.ks
def Hou.Ok (h : Hou) : Prop := h.as.length ≤ 100 ∧ h.ks.length ≤ 50 ∧ h.fs.length ≤ 100 ∧ ∀ k ∈ h.ks, k.hs.length ≤ 100
theorem rowD_at {H : Hp} {x : Str × List D} {v : V} (h : Rep H (rowD x) v) : ∃ p ws, v = .ref p ∧ H p = some (.tup (.str x.1 :: ws)) ∧ Reps H x.2 ws := by
  obtain ⟨p, vs, rfl, hp, v0, r, rfl, e0, hr⟩ := h
  cases (show v0 = _ from e0)
  exact ⟨p, r, rfl, hp, hr⟩
theorem KpR.at {H : Hp} {k : KpR} {v : V} (h : Rep H k.d v) : ∃ (p hs : Addr) (va vb vc ve : V) (ws : List V), v = .ref p ∧ H p = some (.tup [.str k.n, va, vb, vc, ve, .ref hs]) ∧ H hs = some (.tup ws) ∧ Reps H (k.hs.map rowD) ws ∧ Rep H k.a va ∧ Rep H k.b vb ∧ Rep H k.c vc ∧ Rep H k.e ve := by
  obtain ⟨p, vs, rfl, hp, v0, _, rfl, e0, va, _, rfl, ra, vb, _, rfl, rb, vc, _, rfl, rc, ve, _, rfl, re, vh, r, rfl, ⟨hs, ws, rfl, hh, rw⟩, er⟩ := h
  cases (show v0 = _ from e0)
  cases (show r = [] from er)
  exact ⟨p, hs, va, vb, vc, ve, ws, rfl, hp, hh, rw, ra, rb, rc, re⟩
theorem Hou.at {H : Hp} {h : Hou} {v : V} (r : Rep H h.d v) : ∃ (p a k f : Addr) (ua uk uf : List V), v = .ref p ∧ H p = some (.tup [.ref a, .ref k, .ref f]) ∧ H a = some (.tup ua) ∧ H k = some (.tup uk) ∧ H f = some (.tup uf) ∧ Reps H (h.as.map rowD) ua ∧ Reps H (h.ks.map KpR.d) uk ∧ Reps H (h.fs.map rowD) uf := by
  obtain ⟨p, vs, rfl, hp, va, _, rfl, ⟨a, ua, rfl, ha, ra⟩, vk, _, rfl, ⟨k, uk, rfl, hk, rk⟩, vf, r, rfl, ⟨f, uf, rfl, hf, rf⟩, er⟩ := r
  cases (show r = [] from er)
  exact ⟨p, a, k, f, ua, uk, uf, rfl, hp, ha, hk, hf, ra, rk, rf⟩
theorem at0c (v : V) (t : List V) : atI (v :: t) 0 = some v := by
  unfold atI ixN
  rw [if_pos (by decide), if_pos (by rw [List.length_cons]; omega)]
  rfl
theorem at_natc (vs : List V) (i : Nat) {v : V} (h : vs[i]? = some v) : atI vs (i : Int) = some v := atI_nat h
theorem at_lastc (vs : List V) (v : V) : atI (vs ++ [v]) (-1) = some v := by
  unfold atI ixN
  rw [if_neg (by decide), List.length_append, List.length_cons, List.length_nil, if_pos (by omega)]
  show (vs ++ [v])[(-1 + ((vs.length + 1 : Nat) : Int)).toNat]? = some v
  rw [show (-1 + ((vs.length + 1 : Nat) : Int)).toNat = vs.length by omega]
  simp
/-! ### who hears, as a dict of lists; lists of lists of names -/
def HdR (A : Addr → Prop) (H : Hp) : HM → List (Key × V) → Prop
  | [], kvs => kvs = []
  | p :: r, kvs => ∃ a t, kvs = (Sum.inr p.1, V.ref a) :: t ∧ A a ∧ H a = some (.lst (p.2.map V.str)) ∧ HdR A H r t
def HdAt (A : Addr → Prop) (H : Hp) (d : Addr) (m : HM) : Prop := A d ∧ ∃ kvs, H d = some (.dK kvs) ∧ HdR A H m kvs
def LsA (A : Addr → Prop) (H : Hp) : List (List Str) → List V → Prop
  | [], us => us = []
  | x :: r, us => ∃ a t, us = V.ref a :: t ∧ A a ∧ H a = some (.lst (x.map V.str)) ∧ LsA A H r t
/-- what A lets stays -/
def KpA (A : Addr → Prop) (H H' : Hp) : Prop := ∀ a o, A a → H a = some o → H' a = some o
theorem KpA.trans {A : Addr → Prop} {H H1 H2 : Hp} (a : KpA A H H1) (b : KpA A H1 H2) : KpA A H H2 := fun x o h e => b x o h (a x o h e)
theorem KpA.same {A : Addr → Prop} {H H' : Hp} (s : Same H H') : KpA A H H' := fun a o _ e => s a o e
def KpL (A : Addr → Prop) (H H' : Hp) : Prop := ∀ a xs, A a → H a = some (.lst xs) → H' a = some (.lst xs)
theorem KpA.l {A : Addr → Prop} {H H' : Hp} (k : KpA A H H') : KpL A H H' := fun a _ h e => k a _ h e
theorem HdR.mono {A B : Addr → Prop} {H H' : Hp} (w : ∀ a o, A a → H a = some o → B a) (k : KpL A H H') : ∀ {m : HM} {kvs : List (Key × V)}, HdR A H m kvs → HdR B H' m kvs
  | [], _, h => h
  | _ :: _, _, ⟨a, t, e, h1, h2, h3⟩ => ⟨a, t, e, w a _ h1 h2, k a _ h1 h2, HdR.mono w k h3⟩
theorem HdAt.mono {A B : Addr → Prop} {H H' : Hp} {d : Addr} {m : HM} (w : ∀ a o, A a → H a = some o → B a) (k : KpA A H H') (h : HdAt A H d m) : HdAt B H' d m := by
  obtain ⟨h0, kvs, h1, h2⟩ := h
  exact ⟨w d _ h0 h1, kvs, k d _ h0 h1, h2.mono w k.l⟩
theorem LsA.mono {A B : Addr → Prop} {H H' : Hp} (w : ∀ a o, A a → H a = some o → B a) (k : KpL A H H') : ∀ {xs : List (List Str)} {us : List V}, LsA A H xs us → LsA B H' xs us
  | [], _, h => h
  | _ :: _, _, ⟨a, t, e, h1, h2, h3⟩ => ⟨a, t, e, w a _ h1 h2, k a _ h1 h2, LsA.mono w k h3⟩
theorem LsA.len {A : Addr → Prop} {H : Hp} : ∀ {xs : List (List Str)} {us : List V}, LsA A H xs us → us.length = xs.length
  | [], us, h => by rw [show us = [] from h]; rfl
  | _ :: _, _, ⟨a, t, e, h1, h2, h3⟩ => by rw [e, List.length_cons, List.length_cons, h3.len]
theorem LsA.snoc {A : Addr → Prop} {H : Hp} {x : List Str} {a : Addr} (ha : A a) (hx : H a = some (.lst (x.map V.str))) : ∀ {xs : List (List Str)} {us : List V}, LsA A H xs us → LsA A H (xs ++ [x]) (us ++ [V.ref a])
  | [], us, h => by rw [show us = [] from h]; exact ⟨a, [], rfl, ha, hx, rfl⟩
  | _ :: _, _, ⟨b, t, e, h1, h2, h3⟩ => by rw [e]; exact ⟨b, _, rfl, h1, h2, h3.snoc ha hx⟩
theorem LsA.get {A : Addr → Prop} {H : Hp} : ∀ {xs : List (List Str)} {us : List V} {j : Nat} {x : List Str}, LsA A H xs us → xs[j]? = some x → ∃ a, us[j]? = some (V.ref a) ∧ A a ∧ H a = some (.lst (x.map V.str))
  | [], _, _, _, _, e => by simp at e
  | y :: _, _, 0, x, ⟨a, t, e, h1, h2, h3⟩, ex => by
    have q : y = x := by simpa using ex
    rw [e]; exact ⟨a, rfl, h1, q ▸ h2⟩
  | _ :: _, _, j + 1, x, ⟨a, t, e, h1, h2, h3⟩, ex => by
    rw [e]; exact h3.get (j := j) (by simpa using ex)
theorem HdR.len {A : Addr → Prop} {H : Hp} : ∀ {m : HM} {kvs : List (Key × V)}, HdR A H m kvs → kvs.length = m.length
  | [], kvs, h => by rw [show kvs = [] from h]; rfl
  | _ :: _, _, ⟨a, t, e, h1, h2, h3⟩ => by rw [e, List.length_cons, List.length_cons, h3.len]
theorem HdR.keys {A : Addr → Prop} {H : Hp} : ∀ {m : HM} {kvs : List (Key × V)}, HdR A H m kvs → kvs.map (·.1) = (m.map (·.1)).map Sum.inr
  | [], kvs, h => by rw [show kvs = [] from h]; rfl
  | _ :: _, _, ⟨a, t, e, h1, h2, h3⟩ => by rw [e, List.map_cons, List.map_cons, List.map_cons, h3.keys]
theorem inrI {a b : Str} : ((Sum.inr a : Key) = Sum.inr b) ↔ a = b := ⟨fun h => Sum.inr.inj h, fun h => by rw [h]⟩
theorem HdR.get {A : Addr → Prop} {H : Hp} {k : Str} : ∀ {m : HM} {kvs : List (Key × V)}, HdR A H m kvs → (getH m k = none ∧ valV kvs (Sum.inr k) = none) ∨ ∃ qs a, getH m k = some qs ∧ valV kvs (Sum.inr k) = some (.ref a) ∧ A a ∧ H a = some (.lst (qs.map V.str))
  | [], kvs, h => by rw [show kvs = [] from h]; exact .inl ⟨rfl, rfl⟩
  | p :: r, _, ⟨a, t, e, h1, h2, h3⟩ => by
    rw [e]
    by_cases hk : p.1 = k
    · refine .inr ⟨p.2, a, by simp [getH, hk], valV_pos (by rw [hk]), h1, h2⟩
    · have e1 : getH (p :: r) k = getH r k := by simp [getH, hk]
      rw [e1, valV_neg (fun z => hk (inrI.mp z))]
      exact h3.get
theorem HdR.any {A : Addr → Prop} {H : Hp} (k : Str) : ∀ {m : HM} {kvs : List (Key × V)}, HdR A H m kvs → (kvs.any fun kv => decide (kv.1 = Sum.inr k)) = (m.any fun p => decide (p.1 = k))
  | [], kvs, h => by rw [show kvs = [] from h]; rfl
  | p :: r, _, ⟨a, t, e, h1, h2, h3⟩ => by
    rw [e, List.any_cons, List.any_cons, h3.any k]
    congr 1
    exact decide_eq_decide.mpr inrI
theorem HdR.map {A : Addr → Prop} {H : Hp} {k : Str} {qs : List Str} {b : Addr} (hb : A b) (hq : H b = some (.lst (qs.map V.str))) : ∀ {m : HM} {kvs : List (Key × V)}, HdR A H m kvs →
    HdR A H (m.map fun p => if p.1 = k then (p.1, qs) else p) (kvs.map fun kv => if kv.1 = Sum.inr k then (kv.1, V.ref b) else kv)
  | [], kvs, h => by rw [show kvs = [] from h]; rfl
  | p :: r, _, ⟨a, t, e, h1, h2, h3⟩ => by
    rw [e, List.map_cons, List.map_cons]
    by_cases hk : p.1 = k
    · rw [if_pos hk, if_pos (inrI.mpr hk)]
      exact ⟨b, _, rfl, hb, hq, h3.map hb hq⟩
    · rw [if_neg hk, if_neg (fun z => hk (inrI.mp z))]
      exact ⟨a, _, rfl, h1, h2, h3.map hb hq⟩
theorem HdR.snoc {A : Addr → Prop} {H : Hp} {k : Str} {qs : List Str} {b : Addr} (hb : A b) (hq : H b = some (.lst (qs.map V.str))) : ∀ {m : HM} {kvs : List (Key × V)}, HdR A H m kvs → HdR A H (m ++ [(k, qs)]) (kvs ++ [(Sum.inr k, V.ref b)])
  | [], kvs, h => by rw [show kvs = [] from h]; exact ⟨b, [], rfl, hb, hq, rfl⟩
  | _ :: _, _, ⟨a, t, e, h1, h2, h3⟩ => by rw [e]; exact ⟨a, _, rfl, h1, h2, h3.snoc hb hq⟩
theorem HdR.put {A : Addr → Prop} {H : Hp} {k : Str} {qs : List Str} {b : Addr} {m : HM} {kvs : List (Key × V)} (h : HdR A H m kvs) (hb : A b) (hq : H b = some (.lst (qs.map V.str))) : HdR A H (putH m k qs) (putK kvs (Sum.inr k) (V.ref b)) := by
  unfold putH putK
  rw [h.any k]
  split
  · exact h.map hb hq
  · exact h.snoc hb hq
theorem putH_len (m : HM) (k : Str) (q : List Str) : (putH m k q).length ≤ m.length + 1 := by
  unfold putH
  split
  · rw [List.length_map]; omega
  · rw [List.length_append]; simp
theorem hdK_snoc (ks : List KpR) (k : KpR) : hdK (ks ++ [k]) = putH (hdK ks) k.n (k.hs.map (·.1)) := by
  unfold hdK
  rw [List.foldl_append]; rfl
theorem hdK_len (ks : List KpR) : (hdK ks).length ≤ ks.length := by
  have : ∀ (ks : List KpR) (m : HM), (ks.foldl (fun m k => putH m k.n (k.hs.map (·.1))) m).length ≤ m.length + ks.length := by
    intro ks
    induction ks with
    | nil => intro m; exact Nat.le_refl _
    | cons k r ih => intro m; have := ih (putH m k.n (k.hs.map (·.1))); have := putH_len m k.n (k.hs.map (·.1)); simp only [List.foldl_cons, List.length_cons]; omega
  have := this ks []
  rw [List.length_nil, Nat.zero_add] at this
  exact this
structure BltBk (mg : Str → Option Value) : Prop where
  len : mg "len" = none
  list : mg "list" = none
  tuple : mg "tuple" = none
  int : mg "int" = none
  str : mg "str" = none
  bool : mg "bool" = none
  range : mg "range" = none
  enumerate : mg "enumerate" = none
  max : mg "max" = none
  min : mg "min" = none
  sorted : mg "sorted" = none
  any : mg "any" = none
  isinstance : mg "isinstance" = none
theorem wtup {P : Program} {w : World} {K : PySem.W.Frag} {a : Addr} {xs : List V} : Walk (Itt K a) xs.length (fun H => SqT K H a xs) (YAt xs) := walk_tup
def spHeard : Sp := fun vs H Q _ => ∃ (v : V) (h : Hou), vs = [v] ∧ Rep H h.d v ∧ h.Ok ∧ ∀ (d : Addr) (H' : Hp), H d = none → HdAt (fun a => H a = none) H' d h.m → Same H H' → Q (.ref d) H'
section
variable {P : Program} {w : World} {K : PySem.W.Frag} {mg : Str → Option Value} {base : Heap}
theorem ok_l_heard {f : Addr} {fd : FuncData} (D : Fn K mg "_law_heard" st_l_heard ["_law_program"] f fd) : FnOk P w K mg base CX0 1 f fd ["_law_program"] spHeard := by
  refine D.F.ok sc_l_heard (fun vs H Q E h => ?_) (fun cdv A outer s H vs Q E hr h => ?_)
  · obtain ⟨v, h, rfl, _⟩ := h
    rfl
  · obtain ⟨v, h, rfl, hv, ok, k⟩ := h
    have hu := hu_of hr
    obtain ⟨p, a, kp, f0, ua, uk, uf, rfl, hp, ha, hk, hf, ra, rk, rf⟩ := Hou.at hv
    refine ⟨_, (pss_cons (ps_set (i := 1) sc_l_heard.nd rfl (Or.inl rfl) pe_dnewK)
      (pss_cons (ps_for PassesOwn.never rfl (pi_tup (pe_ix ix_tup (pv 0) pe_int (fun _ _ => rfl))) (pg_name (i := 2) sc_l_heard.nd rfl (Or.inl rfl)) (pss_one (ps_dput hu (pv 1) (pe_ix ix_tup (pv 2) pe_int (fun _ _ => rfl)) (pe_lc (own := [("_law_hear", 3)]) (g := gName 3) (tt := tYes) (te := (tOp (rIxT K) (tVar 3) (tC (V.int 0)))) rfl sc_l_heard.nd (pi_tup (pe_ix ix_tup (pv 2) pe_int (fun _ _ => rfl))) (blkOk_by (own := [("_law_hear", 3)]) (N := ["_law_program", "_law_found", "_law_keeper", "_law_hear"]) (sc := defScope st_l_heard) (by decide +kernel)) (fun _ _ _ _ _ => (pg_name (i := 3) sc_l_heard.nd rfl (Or.inl rfl))) (fun _ _ _ _ _ => pts_nil) (fun _ _ _ _ _ => (pe_ix ix_tup (pv 3) pe_int (fun _ _ => rfl)))) rfl)))
      (pss_one (ps_ret (pv 1))))), ?_⟩
    intro d hd
    have s1 := Same.new (o := .dK []) hd
    have a1 := upd_same (H := H) (a := d) (o := .dK [])
    generalize upd H d (.dK []) = J1 at s1 a1 ⊢
    refine ⟨_, rfl, p, _, 1, _, rfl, rfl, SqT.of (s1 _ _ hp), at_natc _ 1 rfl, kp, rfl, ⟨_, SqT.of (s1 _ _ hk)⟩, for_it walk_tup (fun i σ J => Same H J ∧ ∃ o2 o3, σ = [some (.ref p), some (.ref d), o2, o3] ∧ HdAt (fun a => H a = none) J d (hdK (h.ks.take i)))
      ⟨s1, _, _, rfl, hd, [], a1, rfl⟩ (fun i σ J _ q => SqT.of (q.1 _ _ hk)) (fun i x σ J J1 hi q y => ?_) fun σ J q => ?_⟩
    · obtain ⟨sm, o2, o3, rfl, _, kvs, hJd, hr0⟩ := q
      obtain ⟨rfl, ex⟩ := y
      have lk := Reps.len rk
      rw [List.length_map] at lk
      rw [lk] at hi
      have et : h.ks[i]? = some h.ks[i] := List.getElem?_eq_getElem hi
      have hmem := List.mem_of_getElem? et
      generalize h.ks[i] = kr at et hmem
      obtain ⟨y, ey, ry⟩ := Reps.get (rk.mono (TupK.same sm)) (j := i) (d := kr.d) (by rw [List.getElem?_map, et]; rfl)
      obtain rfl : y = x := by rw [ey] at ex; exact Option.some.inj ex
      obtain ⟨q, hs, va, vb, vc, ve, ws, rfl, hq, hh, rw, _⟩ := KpR.at ry
      have lw := Reps.len rw
      rw [List.length_map] at lw
      have l100 := ok.2.2.2 kr hmem
      refine ⟨_, rfl, q, _, 5, _, rfl, rfl, SqT.of hq, at_natc _ 5 rfl, hs, rfl, ⟨_, SqT.of hh⟩, fun L hL => lc_it walk_tup (fun i J' => Same J1 J' ∧ J' L = some (.lst (((kr.hs.map (·.1)).take i).map V.str))) ⟨Same.new hL, upd_same⟩ (fun i J' _ z => SqT.of (z.1 _ _ hh)) (fun j x J' J2 hj z yy => ?_) fun J' z => ?_⟩
      · obtain ⟨rfl, ex⟩ := yy
        obtain ⟨s2, hJ⟩ := z
        rw [lw] at hj
        have eh : kr.hs[j]? = some kr.hs[j] := List.getElem?_eq_getElem hj
        generalize kr.hs[j] = hr1 at eh
        obtain ⟨y, ey, ry⟩ := Reps.get (rw.mono (TupK.same s2)) (j := j) (d := rowD hr1) (by rw [List.getElem?_map, eh]; rfl)
        obtain rfl : y = x := by rw [ey] at ex; exact Option.some.inj ex
        obtain ⟨q2, ws2, rfl, hq2, _⟩ := rowD_at ry
        refine ⟨rfl, lc_yes ?_⟩
        refine ⟨_, rfl, q2, _, 0, _, rfl, rfl, SqT.of hq2, at0c _ _, _, hJ, ?_, fun b o e => ?_, ?_⟩
        · exact Nat.lt_of_le_of_lt (by rw [List.length_map, List.length_take, List.length_map]; omega : _ ≤ 100) (by decide)
        · rw [upd_ne (ne_of_none e hL)]; exact s2 b o e
        · rw [upd_same, List.take_add_one, List.getElem?_map, eh, List.map_append]; rfl
      · obtain ⟨s2, hJ⟩ := z
        rw [lw, show kr.hs.length = (kr.hs.map (·.1)).length by rw [List.length_map], List.take_length] at hJ
        have hd2 := s2 _ _ hJd
        have nL : d ≠ L := ne_of_none hJd hL
        refine ⟨_, rfl, _, rfl, q, _, 0, _, rfl, rfl, SqT.of (s2 _ _ hq), at0c _ _, d, _, rfl, DPut.k (k := Sum.inr kr.n) hd2 ?_, ?_⟩
        · rw [hr0.len]
          exact Nat.lt_of_le_of_lt (Nat.le_trans (hdK_len _) (by rw [List.length_take]; have := ok.2.1; omega) : _ ≤ 50) (by decide)
        · refine ⟨fun b o e => ?_, _, _, rfl, hd, _, upd_same, ?_⟩
          · rw [upd_ne (ne_of_none e hd)]; exact s2 _ _ (sm _ _ e)
          · rw [List.take_add_one, et, Option.toList_some, hdK_snoc]
            have nH : H L = none := sm.free hL
            refine HdR.put (HdR.mono (fun _ _ x _ => x) (fun b o hb e => ?_) hr0) nH (by rw [upd_ne nL.symm]; exact hJ)
            rw [upd_ne (fun z => ?_)]
            · exact s2 _ _ e
            · rw [z, hJd] at e; cases e
    · obtain ⟨sm, o2, o3, rfl, hd2⟩ := q
      have lk := Reps.len rk
      rw [List.length_map] at lk
      rw [lk, List.take_length] at hd2
      exact ⟨_, rfl, k d J hd hd2 sm⟩
end
end Ak
namespace Ak
open PySem L2
local macro_rules | `(tactic| walk_at "no attr") => `(tactic| exact rwF_no _ _ _ (by decide +kernel) (by decide +kernel) (by decide +kernel))
/-! ### the law's own walk: one row -/
structure GoAt (A : Addr → Prop) (H : Hp) (dA S Hs : Addr) (m : HM) (s : BS) : Prop where
  dk : HdAt A H dA m
  st : H S = some (.lst (s.st.map V.str))
  hs : ∃ us, H Hs = some (.lst us) ∧ LsA A H s.hs us
  n1 : ¬ A S
  n2 : ¬ A Hs
  ne : S ≠ Hs
def spGoes : Sp := fun vs H Q _ => ∃ (A : Addr → Prop) (dA S Hs : Addr) (v : V) (m : HM) (s : BS) (r : BR), vs = [.ref dA, .ref S, .ref Hs, v] ∧ GoAt A H dA S Hs m s ∧ Rep H r.d v ∧ KnS m s ∧ s.st.length ≤ MX ∧ s.hs.length ≤ 5000 ∧ (letsB m s r = true → (stepB s r).st.length ≤ MX) ∧ (∀ a, H a = none → A a) ∧
  ∀ H', Kp S Hs H H' → (letsB m s r = true → GoAt A H' dA S Hs m (stepB s r)) → Q (.bl (letsB m s r)) H'
theorem mx_lt {n : Nat} (h : n ≤ MX) : n < sizeLine := Nat.lt_of_le_of_lt h (by decide)
theorem hrs_get {m : HM} {k : Str} {qs : List Str} (e : getH m k = some qs) (q : Str) : hrs m q k = decide (q ∈ qs) := by
  unfold hrs; rw [e]
theorem in_strsB (x : Str) (ys : List Str) : inV (.str x) (ys.map V.str) = decide (x ∈ ys) := by
  unfold inV
  induction ys with
  | nil => rfl
  | cons y r ih =>
    rw [List.map_cons, List.any_cons, ih]
    by_cases h : y = x
    · subst h
      simp [eqV]
    · have : ¬ x = y := fun z => h z.symm
      simp [eqV, h, this]
theorem flat_strs (ys : List Str) : (ys.map V.str).all flatV = true := by
  rw [List.all_eq_true]
  intro v hv
  obtain ⟨y, _, rfl⟩ := List.mem_map.mp hv
  rfl
theorem KpA.upd {A : Addr → Prop} {H : Hp} {S : Addr} {o : HO} (n : ¬ A S) : KpA A H (L2.upd H S o) := fun a u h e => by rw [upd_ne (fun z => n (by rw [← z]; exact h))]; exact e
theorem KpA.upd' {A : Addr → Prop} {H H' : Hp} {S : Addr} {o : HO} (k : KpA A H H') (n : ¬ A S) : KpA A H (L2.upd H' S o) := k.trans (KpA.upd n)
section
variable {P : Program} {w : World} {K : PySem.W.Frag} {mg : Str → Option Value} {base : Heap}
theorem ok_l_goes {f : Addr} {fd : FuncData} (D : Fn K mg "_law_goes" st_l_goes ["_law_heard_here", "_law_stands", "_law_holds", "_law_row_here"] f fd) (T : BltBk mg) : FnOk P w K mg base CX0 1 f fd ["_law_heard_here", "_law_stands", "_law_holds", "_law_row_here"] spGoes := by
  refine D.F.ok sc_l_goes (fun vs H Q E h => ?_) (fun cdv A0 outer s0 H vs Q E hr h => ?_)
  · obtain ⟨A, dA, S, Hs, v, m, s, r, rfl, _⟩ := h
    rfl
  · obtain ⟨A, dA, S, Hs, v, m, s, r, rfl, G, hv, kn, ls, lh, hstep, fr, k⟩ := h
    have hu := hu_of hr
    obtain ⟨⟨aD, kvs, hD, hdr⟩, hS, ⟨us, hHs, lus⟩, n1, n2, ne⟩ := G
    refine ⟨_, (pss_cons (ps_if (pt_cmpR op_eq (pe_ix ix_tup (pv 3) pe_int (fun _ _ => rfl)) pe_str (nomark _)) (pss_cons (ps_expr (pe_bm PySem.F.plainAttrs_list PySem.F.slot_list_append PySem.F.type_list_append mt_append (pv 1) (pa_cons (pe_ix ix_tup (pv 3) pe_int (fun _ _ => rfl)) pa_nil)))
      (pss_one (ps_ret (pe_cmp (pc_din hu (pe_ix ix_tup (pv 3) pe_int (fun _ _ => rfl)) (pv 0)))))) pss_nil)
      (pss_cons (ps_if (pt_cmpR op_eq (pe_ix ix_tup (pv 3) pe_int (fun _ _ => rfl)) pe_str (nomark _)) (pss_one (ps_ret (pe_and (pe_cmpR op_gt (pe_callB call_len_seq (by rfl) T.len (by decide +kernel) (pa_cons (pv 1) pa_nil)) pe_int (nomark _)) (pe_one (pe_cmpR op_eq (pe_bm0 PySem.F.plainAttrs_list PySem.F.slot_list_pop PySem.F.type_list_pop mt_pop (pv 1)) (pe_ix ix_tup (pv 3) pe_int (fun _ _ => rfl)) (nomark _)))))) pss_nil)
      (pss_cons (ps_if (pt_cmpR op_eq (pe_ix ix_tup (pv 3) pe_int (fun _ _ => rfl)) pe_str (nomark _)) (pss_cons (ps_setLc (i := 4) (own := [("_law_k", 5), ("_law_name", 6)]) (g := gTup K 2 (gCons (gName 5) (gCons (gName 6) (gNil)))) (tt := tTest (tOp (rIn K false) (tOp (rIxT K) (tVar 3) (tC (V.int 1))) (tDGet (tVar 0) (tVar 6)))) (te := (tVar 5)) rfl sc_l_goes.nd rfl rfl (sw_true rfl rfl rfl (by decide +kernel)) (pi_enum (by rfl) T.enumerate (pa_cons (pv 1) pa_nil)) (blkOk_by (own := [("_law_k", 5), ("_law_name", 6)]) (N := ["_law_heard_here", "_law_stands", "_law_holds", "_law_row_here", "_law_some", "_law_k", "_law_name"]) (sc := defScope st_l_goes) (by decide +kernel)) (fun _ _ _ _ _ => (pg_tup (by rfl) (pgs_cons (pg_name (i := 5) sc_l_goes.nd rfl (Or.inl rfl)) (pgs_cons (pg_name (i := 6) sc_l_goes.nd rfl (Or.inl rfl)) pgs_nil)))) (fun _ _ _ _ _ => (pts_one (pt_cmpR op_in_seq (pe_ix ix_tup (pv 3) pe_int (fun _ _ => rfl)) (pe_dget hu (pv 0) (pv 6) (fun _ _ => rfl)) (by rfl)))) (fun _ _ _ _ _ => (pv 5)))
      (pss_cons (ps_if (PW.pt (pw_or (pt_cmpR (Ak.op_eqNil hr.units) (pv 4) (pe_lst pa_nil) (nomark _)) (pw_or1 (pt_cmpR op_ne (pe_ix ix_list (pv 4) (pe_un un_neg pe_int) (fun _ _ => rfl)) (pe_ix ix_tup (pv 3) pe_int (fun _ _ => rfl)) (nomark _))))) (pss_one (ps_ret pe_bl)) pss_nil)
      (pss_cons (ps_expr (pe_bm PySem.F.plainAttrs_list PySem.F.slot_list_append PySem.F.type_list_append mt_append (pv 2) (pa_cons (pe_revL (pe_lc (own := [("_law_k", 5)]) (g := gName 5) (tt := tYes) (te := (tBM0 K "list" rPop (tVar 1))) rfl sc_l_goes.nd (pi_range1 rfl T.range (pa_cons (pe_op op_sub (pe_callB call_len_seq (by rfl) T.len (by decide +kernel) (pa_cons (pv 1) pa_nil)) (pe_ix ix_tup (pv 3) pe_int (fun _ _ => rfl))) pa_nil)) (blkOk_by (own := [("_law_k", 5)]) (N := ["_law_heard_here", "_law_stands", "_law_holds", "_law_row_here", "_law_some", "_law_k", "_law_name"]) (sc := defScope st_l_goes) (by decide +kernel)) (fun _ _ _ _ _ => (pg_name (i := 5) sc_l_goes.nd rfl (Or.inl rfl))) (fun _ _ _ _ _ => pts_nil) (fun _ _ _ _ _ => (pe_bm0 PySem.F.plainAttrs_list PySem.F.slot_list_pop PySem.F.type_list_pop mt_pop (pv 1))))) pa_nil)))
      (pss_one (ps_ret pe_bl))))) pss_nil)
      (pss_cons (ps_if (pt_cmpR op_eq (pe_ix ix_tup (pv 3) pe_int (fun _ _ => rfl)) pe_str (nomark _)) (pss_cons (ps_if (pt_cmpR Ak.op_notIn_rng (pe_ix ix_tup (pv 3) pe_int (fun _ _ => rfl)) (pe_callTy Ak.cr_range1 (by rfl) T.range (by decide +kernel) (pa_cons (pe_callB call_len_seq (by rfl) T.len (by decide +kernel) (pa_cons (pv 2) pa_nil)) pa_nil)) (by rfl)) (pss_one (ps_ret pe_bl)) pss_nil)
      (pss_cons (ps_expr (pe_bm PySem.F.plainAttrs_list PySem.F.slot_list_extend PySem.F.type_list_extend mt_extend (pv 1) (pa_cons (pe_ix ix_list (pv 2) (pe_ix ix_tup (pv 3) pe_int (fun _ _ => rfl)) (fun _ _ => rfl)) pa_nil)))
      (pss_one (ps_ret pe_bl)))) pss_nil)
      (pss_one (ps_ret (pe_chain op_le op_lt pe_int (pe_ix ix_tup (pv 3) pe_int (fun _ _ => rfl)) (pe_op op_pow pe_int pe_int)))))))), ?_⟩
    cases r with
    | keep kk =>
      obtain ⟨p, vs, rfl, hp, _, _, rfl, rfl, _, _, rfl, rfl, e⟩ := hv
      cases e
      have nD : dA ≠ S := ne_of hD hS (by intro z; cases z)
      refine ⟨_, rfl, p, _, 0, _, rfl, rfl, SqT.of hp, at0c _ _, rfl, _, rfl, ite2 (fun _ => ?_) fun c => absurd (decide_eq_true rfl) c⟩
      refine ⟨_, rfl, .inl ⟨rfl, _, SqL.of hS⟩, _, rfl, p, _, 1, _, rfl, rfl, SqT.of hp, at_natc _ 1 rfl, S, _, _, rfl, rfl, hS, by rw [List.length_map]; exact mx_lt ls, ?_⟩
      have np : p ≠ S := ne_of hp hS (by intro z; cases z)
      refine ⟨_, rfl, p, _, 1, _, rfl, rfl, SqT.of (by rw [upd_ne np]; exact hp), at_natc _ 1 rfl, _, rfl, dA, _, rfl, DGet.k (k := Sum.inr kk) (by rw [upd_ne nD]; exact hD), ?_⟩
      have e1 : (valV kvs (Sum.inr kk)).isSome = letsB m s (.keep kk) := by
        show _ = (getH m kk).isSome
        rcases hdr.get (k := kk) with ⟨g1, g2⟩ | ⟨qs, a, g1, g2, _⟩ <;> rw [g1, g2] <;> rfl
      rw [e1]
      have kA : KpA A H (upd H S (.lst (s.st.map V.str ++ [V.str kk]))) := KpA.upd n1
      refine k _ (fun b o e b1 _ => by rw [upd_ne b1]; exact e) fun _ => ⟨HdAt.mono (fun _ _ x _ => x) kA ⟨aD, kvs, hD, hdr⟩, by rw [upd_same]; simp [stepB], ⟨us, by rw [upd_ne ne.symm]; exact hHs, lus.mono (fun _ _ x _ => x) kA.l⟩, n1, n2, ne⟩
    | ended kk =>
      obtain ⟨p, vs, rfl, hp, _, _, rfl, rfl, _, _, rfl, rfl, e⟩ := hv
      cases e
      refine ⟨_, rfl, p, _, 0, _, rfl, rfl, SqT.of hp, at0c _ _, rfl, _, rfl, ite2 (fun c => absurd (V.str.inj (of_decide_eq_true c)) (by decide +kernel)) fun _ => ?_⟩
      refine ⟨_, rfl, p, _, 0, _, rfl, rfl, SqT.of hp, at0c _ _, rfl, _, rfl, ite2 (fun _ => ?_) fun c => absurd (decide_eq_true rfl) c⟩
      refine ⟨_, rfl, S, _, rfl, .inl (SqL.of hS), _, _, rfl, rfl, _, rfl, ?_⟩
      rcases List.eq_nil_or_concat s.st with h0 | ⟨ini, x, h0⟩
      · rw [h0]
        refine iteF ?_
        have : letsB m s (.ended kk) = false := by show decide (s.st.getLast? = some kk) = false; rw [h0]; rfl
        rw [← this]
        exact k H (fun b o e _ _ => e) fun z => by rw [this] at z; cases z
      · rw [List.concat_eq_append] at h0
        rw [h0] at hS
        have e1 : (s.st.map V.str).length = ini.length + 1 := by rw [List.length_map, h0, List.length_append]; rfl
        rw [e1, show (decide ((0 : Int) < ((ini.length + 1 : Nat) : Int))) = true from decide_eq_true (by omega)]
        refine iteT ?_
        have np : p ≠ S := ne_of hp hS (by intro z; cases z)
        rw [List.map_append, List.map_cons, List.map_nil] at hS
        refine ⟨_, rfl, .inl ⟨rfl, _, SqL.of hS⟩, S, _, .str x, rfl, rfl, hS, by simp, ?_⟩
        rw [List.dropLast_concat]
        refine ⟨_, rfl, p, _, 1, _, rfl, rfl, SqT.of (by rw [upd_ne np]; exact hp), at_natc _ 1 rfl, rfl, ?_⟩
        have e2 : decide (V.str x = V.str kk) = letsB m s (.ended kk) := by
          show _ = decide (s.st.getLast? = some kk)
          rw [h0, List.getLast?_concat]
          exact decide_eq_decide.mpr ⟨fun z => by injection z with z; rw [z], fun z => by injection z with z; rw [z]⟩
        rw [e2]
        have kA : KpA A H (upd H S (.lst (ini.map V.str))) := KpA.upd n1
        refine k _ (fun b o e b1 _ => by rw [upd_ne b1]; exact e) fun _ => ⟨HdAt.mono (fun _ _ x _ => x) kA ⟨aD, kvs, hD, hdr⟩, by rw [upd_same]; simp [stepB, h0], ⟨us, by rw [upd_ne ne.symm]; exact hHs, lus.mono (fun _ _ x _ => x) kA.l⟩, n1, n2, ne⟩
    | ask q n =>
      obtain ⟨p, vs, rfl, hp, _, _, rfl, rfl, _, _, rfl, rfl, _, _, rfl, rfl, e⟩ := hv
      cases e
      refine ⟨_, rfl, p, _, 0, _, rfl, rfl, SqT.of hp, at0c _ _, rfl, _, rfl, ite2 (fun c => absurd (V.str.inj (of_decide_eq_true c)) (by decide +kernel)) fun _ => ?_⟩
      refine ⟨_, rfl, p, _, 0, _, rfl, rfl, SqT.of hp, at0c _ _, rfl, _, rfl, ite2 (fun c => absurd (V.str.inj (of_decide_eq_true c)) (by decide +kernel)) fun _ => ?_⟩
      refine ⟨_, rfl, p, _, 0, _, rfl, rfl, SqT.of hp, at0c _ _, rfl, _, rfl, ite2 (fun _ => ?_) fun c => absurd (decide_eq_true rfl) c⟩
      refine ⟨_, rfl, S, _, rfl, SqL.of hS, fun L hL => lc_it walk_enum (fun i J => Same H J ∧ J L = some (.lst ((ixs (hrs m q) (s.st.take i) 0).map fun n : Nat => V.int (n : Int)))) ⟨Same.new hL, upd_same⟩ (fun i J _ z => SqL.of (z.1 _ _ hS)) (fun i x J J1 hi z yy => ?_) fun J z => ?_⟩
      · obtain ⟨sm, hJ⟩ := z
        obtain ⟨T0, x1, x2, rfl, hT, rfl, ex1, ex2⟩ := yy
        obtain rfl : V.int (i : Int) = x1 := Option.some.inj ex1
        rw [List.length_map] at hi
        have et : s.st[i]? = some s.st[i] := List.getElem?_eq_getElem hi
        have hmem := List.mem_of_getElem? et
        generalize s.st[i] = x at et hmem
        have ex2' : (s.st.map V.str)[i]? = some x2 := ex2
        rw [List.getElem?_map, et] at ex2'
        obtain rfl : V.str x = x2 := Option.some.inj ex2'
        have sT := Same.new (o := .tup [V.int (i : Int), V.str x]) hT
        have s1 := sm.trans sT
        have hJ1 := sT _ _ hJ
        refine ⟨T0, _, rfl, SqT.of upd_same, rfl, _, _, rfl, _, _, rfl, rfl, rfl, ?_⟩
        generalize upd J T0 (.tup [V.int (i : Int), V.str x]) = J2 at s1 hJ1 ⊢
        have hk := kn.1 x hmem
        rcases hdr.get (k := x) with ⟨g1, g2⟩ | ⟨qs, a, g1, g2, _, ga⟩
        · rw [g1] at hk; cases hk
        refine ⟨_, rfl, p, _, 1, _, rfl, rfl, SqT.of (s1 _ _ hp), at_natc _ 1 rfl, _, rfl, _, rfl, dA, _, rfl, by rw [← g2]; exact DGet.k (k := Sum.inr x) (s1 _ _ hD), a, _, rfl, .inl (SqL.of (s1 _ _ ga)), rfl, flat_strs _, _, rfl, ?_⟩
        show (if inV (.str q) (qs.map V.str) = true then _ else _)
        rw [in_strsB, ← hrs_get g1 q]
        have e3 : ixs (hrs m q) (s.st.take (i + 1)) 0 = ixs (hrs m q) (s.st.take i) 0 ++ if hrs m q x = true then [i] else [] := by
          rw [List.take_add_one, et]
          show ixs (hrs m q) (s.st.take i ++ [x]) 0 = _
          rw [ixs_snoc, List.length_take, Nat.zero_add, Nat.min_eq_left (Nat.le_of_lt hi)]
        refine ite2 (fun c => ?_) fun c => ?_
        · refine ⟨_, rfl, _, hJ1, ?_, fun b o e => ?_, ?_⟩
          · rw [List.length_map]
            exact mx_lt (Nat.le_trans (ixs_len _ _ _) (by rw [List.length_take]; omega))
          · rw [upd_ne (ne_of_none e hL)]; exact s1 _ _ e
          · rw [upd_same, e3, if_pos c, List.map_append]; rfl
        · exact ⟨s1, by rw [e3, if_neg c, List.append_nil]; exact hJ1⟩
      · obtain ⟨sm, hJ⟩ := z
        rw [List.length_map, List.take_length] at hJ
        rcases ask_ix (m := m) (s := s) (q := q) (n := n) with ⟨e0, e1⟩ | ⟨ks, kx, e0, hkx, e1⟩
        · rw [e0] at hJ
          refine ⟨_, rfl, Nat.zero_le _, fun z hz => ⟨L, z, _, rfl, rfl, SqL.of ((Same.new hz) _ _ hJ), SqL.of upd_same, _, rfl, iteT (iteT ?_)⟩⟩
          have sz := sm.trans (Same.new (o := .lst []) hz)
          have := k _ (Kp.same sz) fun z => by rw [e1] at z; cases z
          rw [e1] at this
          exact this
        · rw [e0, List.map_append] at hJ
          refine ⟨_, rfl, Nat.zero_le _, fun z hz => ⟨L, z, _, rfl, rfl, SqL.of ((Same.new hz) _ _ hJ), SqL.of upd_same, _, rfl, ?_⟩⟩
          have sz := sm.trans (Same.new (o := .lst []) hz)
          have hJz := (Same.new (o := .lst []) hz) _ _ hJ
          generalize upd J z (.lst []) = G at sz hJz ⊢
          rw [show (if false = true then !(List.map (fun n : Nat => V.int (n : Int)) ks ++ List.map (fun n : Nat => V.int (n : Int)) [kx]).isEmpty else (List.map (fun n : Nat => V.int (n : Int)) ks ++ List.map (fun n : Nat => V.int (n : Int)) [kx]).isEmpty) = false by simp]
          refine iteF ⟨_, rfl, 1, rfl, L, _, -1, _, rfl, rfl, SqL.of hJz, at_lastc _ _, _, rfl, p, _, 2, _, rfl, rfl, SqT.of (sz _ _ hp), at_natc _ 2 rfl, rfl, _, rfl, ?_⟩
          by_cases hkn : (kx : Int) = n
          · have d1 : (!decide (V.int (kx : Int) = V.int n)) = false := by rw [decide_eq_true (by rw [hkn])]; rfl
            rw [d1]
            refine iteF ?_
            rw [decide_eq_true hkn] at e1
            subst hkn
            have hSG := sz _ _ hS
            have hHG := sz _ _ hHs
            refine ⟨_, rfl, .inl ⟨rfl, _, SqL.of hHG⟩, _, rfl, S, _, rfl, .inl (SqL.of hSG), _, rfl, p, _, 2, _, rfl, rfl, SqT.of (sz _ _ hp), at_natc _ 2 rfl, _, _, rfl, rfl, _, rfl, ?_, ?_, fun L2 hL2 => ?_⟩
            · have := mx_lt ls; rw [List.length_map]; omega
            · have := mx_lt ls
              rw [List.length_map]
              have h62 : s.st.length < 2 ^ 62 := Nat.lt_of_le_of_lt ls (by decide)
              omega
            have hlen : ((((s.st.map V.str).length : Int)) - (kx : Int)).toNat = s.st.length - kx := by rw [List.length_map]; omega
            rw [hlen]
            refine lc_it (walk_range (lo := 0) (n := s.st.length - kx)) (fun i J => (∀ b o, G b = some o → b ≠ S → J b = some o) ∧ J S = some (.lst ((s.st.take (s.st.length - i)).map V.str)) ∧ J L2 = some (.lst ((s.st.drop (s.st.length - i)).reverse.map V.str))) ⟨fun b o e _ => Same.new hL2 _ _ e, ?_, ?_⟩ (fun _ _ _ _ => True.intro) (fun i x J J1 hi z yy => ?_) fun J z => ?_
            · rw [Nat.sub_zero, List.take_length]; exact Same.new hL2 _ _ hSG
            · rw [Nat.sub_zero, List.drop_length]; exact upd_same
            · obtain ⟨rfl, rfl⟩ := yy
              obtain ⟨z1, z2, z3⟩ := z
              obtain ⟨c, hc⟩ : ∃ c, s.st.length - i = c + 1 := ⟨s.st.length - i - 1, by omega⟩
              have hcl : c < s.st.length := by omega
              have et : s.st[c]? = some s.st[c] := List.getElem?_eq_getElem hcl
              have ed : s.st.drop c = s.st[c] :: s.st.drop (c + 1) := List.drop_eq_getElem_cons hcl
              generalize s.st[c] = x at et ed
              rw [hc, List.take_add_one, et, List.map_append] at z2
              rw [hc] at z3
              have nSL : L2 ≠ S := fun z => by rw [z, hSG] at hL2; cases hL2
              refine ⟨rfl, lc_yes ?_⟩
              refine ⟨_, rfl, .inl ⟨rfl, _, SqL.of z2⟩, S, _, .str x, rfl, rfl, z2, by simp, ?_⟩
              rw [show ((s.st.take c).map V.str ++ List.map V.str (some x).toList).dropLast = (s.st.take c).map V.str from List.dropLast_concat]
              refine ⟨_, (upd_ne nSL).trans z3, ?_, fun b o e hb => ?_, ?_, ?_⟩
              · rw [List.length_map, List.length_reverse, List.length_drop]; have := mx_lt ls; omega
              · rw [upd_ne (ne_of_none e hL2), upd_ne hb]; exact z1 b o e hb
              · rw [upd_ne nSL.symm, upd_same, show s.st.length - (i + 1) = c by omega]
              · rw [upd_same, show s.st.length - (i + 1) = c by omega, ed, List.reverse_cons, List.map_append]; rfl
            · obtain ⟨z1, z2, z3⟩ := z
              rw [show s.st.length - (s.st.length - kx) = kx by omega] at z2 z3
              refine ⟨L2, _, rfl, SqL.of z3, fun q2 hq2 => ?_⟩
              rw [← List.map_reverse, List.reverse_reverse]
              have hHJ := z1 _ _ hHG ne.symm
              have nHq : Hs ≠ q2 := ne_of_none hHJ hq2
              refine ⟨Hs, us, _, rfl, rfl, (upd_ne nHq).trans hHJ, ?_, ?_⟩
              · rw [lus.len]; exact Nat.lt_of_le_of_lt lh (by decide)
              have hq2H : H q2 = none := by
                cases e : H q2 with
                | none => rfl
                | some o =>
                  by_cases hb : q2 = S
                  · rw [hb, z2] at hq2; cases hq2
                  · rw [z1 _ _ (sz _ _ e) hb] at hq2; cases hq2
              have nqS : q2 ≠ S := fun z => by rw [z, hS] at hq2H; cases hq2H
              have := k (upd (upd J q2 (.lst ((s.st.drop kx).map V.str))) Hs (.lst (us ++ [V.ref q2]))) (fun b o e b1 b2 => by rw [upd_ne b2, upd_ne (ne_of_none e hq2H)]; exact z1 _ _ (sz _ _ e) b1) fun _ => ?_
              · rw [e1] at this; exact this
              · have kA : KpA A H (upd (upd J q2 (.lst ((s.st.drop kx).map V.str))) Hs (.lst (us ++ [V.ref q2]))) := fun a o h e => by
                  rw [upd_ne (fun z => n2 (by rw [← z]; exact h)), upd_ne (ne_of_none e hq2H)]
                  exact z1 _ _ (sz _ _ e) fun z => n1 (by rw [← z]; exact h)
                refine ⟨HdAt.mono (fun _ _ x _ => x) kA ⟨aD, kvs, hD, hdr⟩, ?_, ⟨_, upd_same, ?_⟩, n1, n2, ne⟩
                · rw [upd_ne ne, upd_ne nqS.symm, z2]; rfl
                · exact LsA.snoc (fr _ hq2H) ((upd_ne nHq.symm).trans upd_same) (lus.mono (fun _ _ x _ => x) kA.l)
          · have d1 : (!decide (V.int (kx : Int) = V.int n)) = true := by rw [decide_eq_false (fun z => hkn (by injection z))]; rfl
            rw [d1]
            refine iteT ?_
            rw [decide_eq_false hkn] at e1
            have := k _ (Kp.same sz) fun z => by rw [e1] at z; cases z
            rw [e1] at this
            exact this
    | go j =>
      obtain ⟨p, vs, rfl, hp, _, _, rfl, rfl, _, _, rfl, rfl, e⟩ := hv
      cases e
      refine ⟨_, rfl, p, _, 0, _, rfl, rfl, SqT.of hp, at0c _ _, rfl, _, rfl, ite2 (fun c => absurd (V.str.inj (of_decide_eq_true c)) (by decide +kernel)) fun _ => ?_⟩
      refine ⟨_, rfl, p, _, 0, _, rfl, rfl, SqT.of hp, at0c _ _, rfl, _, rfl, ite2 (fun c => absurd (V.str.inj (of_decide_eq_true c)) (by decide +kernel)) fun _ => ?_⟩
      refine ⟨_, rfl, p, _, 0, _, rfl, rfl, SqT.of hp, at0c _ _, rfl, _, rfl, ite2 (fun c => absurd (V.str.inj (of_decide_eq_true c)) (by decide +kernel)) fun _ => ?_⟩
      refine ⟨_, rfl, p, _, 0, _, rfl, rfl, SqT.of hp, at0c _ _, rfl, _, rfl, ite2 (fun _ => ?_) fun c => absurd (decide_eq_true rfl) c⟩
      refine ⟨_, rfl, p, _, 1, _, rfl, rfl, SqT.of hp, at_natc _ 1 rfl, _, rfl, Hs, _, rfl, .inl (SqL.of hHs), _, rfl, fun R hR => ⟨_, R, _, _, rfl, rfl, upd_same, _, rfl, ?_⟩⟩
      rw [lus.len]
      have sR := Same.new (o := .rng 0 (s.hs.length : Int)) hR
      generalize upd H R (.rng 0 (s.hs.length : Int)) = G at sR ⊢
      have e1 : letsB m s (.go j) = decide (0 ≤ j ∧ j < (s.hs.length : Int)) := rfl
      by_cases hj : 0 ≤ j ∧ j < (s.hs.length : Int)
      · rw [decide_eq_true hj] at e1 ⊢
        refine iteF ?_
        have hjn : j.toNat < s.hs.length := by omega
        have eg : s.hs[j.toNat]? = some s.hs[j.toNat] := List.getElem?_eq_getElem hjn
        generalize s.hs[j.toNat] = g at eg
        obtain ⟨b, eb, ab, hb⟩ := lus.get eg
        have st := hstep e1
        have st' : (s.st ++ g).length ≤ MX := by
          have : (stepB s (.go j)).st = s.st ++ g := by show s.st ++ s.hs[j.toNat]?.getD [] = _; rw [eg]; rfl
          rw [← this]; exact st
        have hSG := sR _ _ hS
        have hja : atI us j = some (.ref b) := by
          have := at_natc us j.toNat eb
          rwa [Int.toNat_of_nonneg hj.1] at this
        refine ⟨_, rfl, .inl ⟨rfl, _, SqL.of hSG⟩, _, rfl, _, rfl, p, _, 1, _, rfl, rfl, SqT.of (sR _ _ hp), at_natc _ 1 rfl, Hs, us, j, _, rfl, rfl, SqL.of (sR _ _ hHs), hja, S, b, _, _, rfl, rfl, hSG, sR _ _ hb, ?_, ?_⟩
        · rw [List.length_append] at st'
          rw [List.length_map, List.length_map]
          exact Nat.le_of_lt (mx_lt st')
        have kA : KpA A H (upd G S (.lst (s.st.map V.str ++ g.map V.str))) := (KpA.same sR).upd' n1
        have := k (upd G S (.lst (s.st.map V.str ++ g.map V.str))) (fun b o e b1 _ => by rw [upd_ne b1]; exact sR _ _ e) fun _ => ⟨HdAt.mono (fun _ _ x _ => x) kA ⟨aD, kvs, hD, hdr⟩, by rw [upd_same]; simp [stepB, eg], ⟨us, by rw [upd_ne ne.symm]; exact sR _ _ hHs, lus.mono (fun _ _ x _ => x) kA.l⟩, n1, n2, ne⟩
        rw [e1] at this
        exact this
      · rw [decide_eq_false hj] at e1 ⊢
        refine iteT ?_
        have := k _ (Kp.same sR) fun z => by rw [e1] at z; cases z
        rw [e1] at this
        exact this
    | tell x =>
      obtain ⟨p, vs, rfl, hp, _, _, rfl, rfl, _, _, rfl, rfl, e⟩ := hv
      cases e
      refine ⟨_, rfl, p, _, 0, _, rfl, rfl, SqT.of hp, at0c _ _, rfl, _, rfl, ite2 (fun c => absurd (V.str.inj (of_decide_eq_true c)) (by decide +kernel)) fun _ => ?_⟩
      refine ⟨_, rfl, p, _, 0, _, rfl, rfl, SqT.of hp, at0c _ _, rfl, _, rfl, ite2 (fun c => absurd (V.str.inj (of_decide_eq_true c)) (by decide +kernel)) fun _ => ?_⟩
      refine ⟨_, rfl, p, _, 0, _, rfl, rfl, SqT.of hp, at0c _ _, rfl, _, rfl, ite2 (fun c => absurd (V.str.inj (of_decide_eq_true c)) (by decide +kernel)) fun _ => ?_⟩
      refine ⟨_, rfl, p, _, 0, _, rfl, rfl, SqT.of hp, at0c _ _, rfl, _, rfl, ite2 (fun c => absurd (V.str.inj (of_decide_eq_true c)) (by decide +kernel)) fun _ => ?_⟩
      refine ⟨_, rfl, p, _, 1, _, rfl, rfl, SqT.of hp, at_natc _ 1 rfl, _, _, rfl, rfl, _, rfl, ?_⟩
      have fin : ∀ b : Bool, b = letsB m s (.tell x) → Q (.bl b) H := fun b e => by
        rw [e]
        exact k H (fun _ _ e _ _ => e) fun _ => ⟨⟨aD, kvs, hD, hdr⟩, hS, ⟨us, hHs, lus⟩, n1, n2, ne⟩
      by_cases h0 : 0 ≤ x
      · rw [decide_eq_true h0]
        refine iteT ⟨_, _, rfl, rfl, ⟨by decide, by decide, by decide⟩, _, _, rfl, rfl, fin _ ?_⟩
        show decide (x < (10 : Int) ^ (9 : Int).toNat) = decide (0 ≤ x ∧ x ≤ 999999999)
        exact decide_eq_decide.mpr ⟨fun h => ⟨h0, by have : (10 : Int) ^ (9 : Int).toNat = 1000000000 := by decide
                                                     omega⟩, fun h => by have : (10 : Int) ^ (9 : Int).toNat = 1000000000 := by decide
                                                                         omega⟩
      · rw [decide_eq_false h0]
        refine iteF (fin _ ?_)
        show false = decide (0 ≤ x ∧ x ≤ 999999999)
        exact (decide_eq_false fun z => h0 z.1).symm
end
end Ak
namespace Ak
open PySem L2
local macro_rules | `(tactic| walk_at "no attr") => `(tactic| exact rwF_no _ _ _ (by decide +kernel) (by decide +kernel) (by decide +kernel))
/-! ### the law's own walk: the first row that may not come -/
abbrev st_l_first_wrong : Stmt := top 21
theorem sc_l_first_wrong : FnScope ["_law_program", "_law_book_here", "_law_heard_here", "_law_stands", "_law_holds", "_law_at", "_law_row_here"] ["_law_program", "_law_book_here"] (defScope st_l_first_wrong) := ⟨rfl, rfl, rfl, by decide +kernel, rfl, by decide +kernel, by decide +kernel⟩
def wrongV : Option Nat → V
  | none => .non
  | some i => .int (i : Int)
def spFirst : Sp := fun vs H Q _ => ∃ (v : V) (b : Addr) (us : List V) (h : Hou) (rs : List BR), vs = [v, .ref b] ∧ Rep H h.d v ∧ h.Ok ∧ H b = some (.lst us) ∧ Reps H (rs.map BR.d) us ∧ rs.length ≤ 3000 ∧ RoomW h.m ⟨[], []⟩ rs ∧
  ∀ H', Same H H' → Q (wrongV (firstW h.m ⟨[], []⟩ rs 0)) H'
theorem stepB_hs (s : BS) (r : BR) : (stepB s r).hs.length ≤ s.hs.length + 1 := by
  cases r <;> simp [stepB]
theorem GoAt.mono {A : Addr → Prop} {H H' : Hp} {dA S Hs : Addr} {m : HM} {s : BS} (G : GoAt A H dA S Hs m s) (k : KpA A H H') (h1 : H' S = H S) (h2 : H' Hs = H Hs) : GoAt A H' dA S Hs m s := by
  obtain ⟨us, h3, h4⟩ := G.hs
  exact ⟨G.dk.mono (fun _ _ x _ => x) k, h1.trans G.st, ⟨us, h2.trans h3, h4.mono (fun _ _ x _ => x) k.l⟩, G.n1, G.n2, G.ne⟩
theorem GoAt.same {A : Addr → Prop} {H H' : Hp} {dA S Hs : Addr} {m : HM} {s : BS} (G : GoAt A H dA S Hs m s) (k : Same H H') : GoAt A H' dA S Hs m s := by
  obtain ⟨us, h3, h4⟩ := G.hs
  exact G.mono (KpA.same k) (by rw [G.st]; exact k _ _ G.st) (by rw [h3]; exact k _ _ h3)
section
variable {P : Program} {w : World} {K : PySem.W.Frag} {mg : Str → Option Value} {base : Heap} {f1 f2 : Addr} {d1 d2 : FuncData}
theorem ok_l_first_wrong {f : Addr} {fd : FuncData} (D : Fn K mg "_law_first_wrong" st_l_first_wrong ["_law_program", "_law_book_here"] f fd) (T : BltBk mg) (D_l_heard : Fn K mg "_law_heard" st_l_heard ["_law_program"] f1 d1) (G_l_heard : FnOk P w K mg base CX0 1 f1 d1 ["_law_program"] spHeard)
    (D_l_goes : Fn K mg "_law_goes" st_l_goes ["_law_heard_here", "_law_stands", "_law_holds", "_law_row_here"] f2 d2) (G_l_goes : FnOk P w K mg base CX0 1 f2 d2 ["_law_heard_here", "_law_stands", "_law_holds", "_law_row_here"] spGoes) : FnOk P w K mg base CX0 2 f fd ["_law_program", "_law_book_here"] spFirst := by
  refine D.F.ok sc_l_first_wrong (fun vs H Q E h => ?_) (fun cdv A0 outer s0 H vs Q E hr h => ?_)
  · obtain ⟨v, b, us, h, rs, rfl, _⟩ := h
    rfl
  · obtain ⟨v, b, us, h, rs, rfl, hv, ok, hb, hus, hl, room, k⟩ := h
    refine ⟨_, (pss_cons (ps_par3 (i := 2) (j := 3) (l := 4) (by rfl) sc_l_first_wrong.nd rfl rfl rfl (by decide) (by decide) (by decide) rfl rfl rfl (pa_cons (pe_call G_l_heard (hr.mono (by decide)) rfl D_l_heard.mg D_l_heard.kp D_l_heard.b .nil pass0 (pa_cons (pv 0) pa_nil)) (pa_cons (pe_lst pa_nil) (pa_cons (pe_lst pa_nil) pa_nil))) (by rfl))
      (pss_cons (ps_for PassesOwn.never rfl (pi_enum (by rfl) T.enumerate (pa_cons (pv 1) pa_nil)) (pg_tup (by rfl) (pgs_cons (pg_name (i := 5) sc_l_first_wrong.nd rfl (Or.inl rfl)) (pgs_cons (pg_name (i := 6) sc_l_first_wrong.nd rfl (Or.inl rfl)) pgs_nil))) (pss_one (ps_if (pt_not (pt_val (pe_call G_l_goes (hr.mono (by decide)) rfl D_l_goes.mg D_l_goes.kp D_l_goes.b .nil pass0 (pa_cons (pv 2) (pa_cons (pv 3) (pa_cons (pv 4) (pa_cons (pv 6) pa_nil))))))) (pss_one (ps_ret (pv 5))) pss_nil)))
      (pss_one (ps_ret pe_non)))), ?_⟩
    refine ⟨_, rfl, v, h, rfl, hv, ok, fun dA J1 hdA HD s1 => ⟨Nat.zero_le _, fun S hS => ⟨Nat.zero_le _, fun Hs hHs => ⟨_, _, _, rfl, ?_⟩⟩⟩⟩
    have nS : S ≠ Hs := fun z => by rw [← z, upd_same] at hHs; cases hHs
    have hHs1 : J1 Hs = none := by rw [upd_ne nS.symm] at hHs; exact hHs
    have s2 : Same J1 (upd (upd J1 S (.lst [])) Hs (.lst [])) := (Same.new hS).trans (Same.new hHs)
    have G0 : GoAt (fun a => a ≠ S ∧ a ≠ Hs) (upd (upd J1 S (.lst [])) Hs (.lst [])) dA S Hs h.m ⟨[], []⟩ :=
      ⟨HD.mono (fun a o _ e => ⟨ne_of_none e hS, ne_of_none e hHs1⟩) (KpA.same s2), (upd_ne nS).trans upd_same, ⟨[], upd_same, rfl⟩, fun z => z.1 rfl, fun z => z.2 rfl, nS⟩
    have s12 := s1.trans s2
    generalize upd (upd J1 S (.lst [])) Hs (.lst []) = J2 at G0 s12 ⊢
    have hS2 : H S = none := s1.free hS
    have hH2 : H Hs = none := s1.free hHs1
    refine ⟨_, rfl, b, us, rfl, SqL.of (s12 _ _ hb), for_it walk_enum (fun i σ J => Same H J ∧ ∃ (s : BS) (o5 o6 : Option V), σ = [some v, some (.ref b), some (.ref dA), some (.ref S), some (.ref Hs), o5, o6] ∧ GoAt (fun a => a ≠ S ∧ a ≠ Hs) J dA S Hs h.m s ∧ KnS h.m s ∧ s.hs.length ≤ i ∧ RoomW h.m s (rs.drop i) ∧ firstW h.m ⟨[], []⟩ rs 0 = firstW h.m s (rs.drop i) i)
      ⟨s12, _, _, _, rfl, G0, KnS.nil _, Nat.le_refl _, room, rfl⟩ (fun i σ J _ q => SqL.of (q.1 _ _ hb)) (fun i x σ J J1 hi q y => ?_) fun σ J q => ?_⟩
    · obtain ⟨sm, s, o5, o6, rfl, G, kn, lh, rm, fw⟩ := q
      obtain ⟨T0, x1, x2, rfl, hT, rfl, ex1, ex2⟩ := y
      obtain rfl : V.int (i : Int) = x1 := Option.some.inj ex1
      have lu := Reps.len hus
      rw [List.length_map] at lu
      rw [lu] at hi
      have et : rs[i]? = some rs[i] := List.getElem?_eq_getElem hi
      have ed : rs.drop i = rs[i] :: rs.drop (i + 1) := List.drop_eq_getElem_cons hi
      generalize rs[i] = r at et ed
      rw [ed] at rm fw
      have sT := Same.new (o := .tup [V.int (i : Int), x2]) hT
      have s1 := sm.trans sT
      have G1 := G.same sT
      obtain ⟨y, ey, ry⟩ := Reps.get (hus.mono (TupK.same s1)) (j := i) (d := r.d) (by rw [List.getElem?_map, et]; rfl)
      have ex2' : us[i]? = some x2 := ex2
      obtain rfl : y = x2 := by rw [ey] at ex2'; exact Option.some.inj ex2'
      refine ⟨T0, _, rfl, SqT.of upd_same, rfl, _, _, rfl, _, _, rfl, rfl, ?_⟩
      generalize upd J T0 (.tup [V.int (i : Int), y]) = J2 at s1 G1 ry
      have fr : ∀ a, J2 a = none → a ≠ S ∧ a ≠ Hs := fun a e => by
        obtain ⟨us2, hu2, _⟩ := G1.hs
        exact ⟨(fun z => by rw [z, G1.st] at e; cases e), (fun z => by rw [z, hu2] at e; cases e)⟩
      refine ⟨_, rfl, _, rfl, _, rfl, _, rfl, _, dA, S, Hs, y, h.m, s, r, rfl, G1, ry, kn, rm.1, by omega, fun hl => (rm.2 hl).st, fr, fun J3 k3 g3 => ⟨_, rfl, ?_⟩⟩
      have s3 : Same H J3 := fun c o e => k3 c o (s1 _ _ e) (ne_of_none e hS2) (ne_of_none e hH2)
      cases hl : letsB h.m s r with
      | true =>
        refine iteF ⟨s3, stepB s r, _, _, rfl, g3 hl, kn.step hl, ?_, rm.2 hl, ?_⟩
        · have := stepB_hs s r; omega
        · rw [fw]; show (if letsB h.m s r = true then _ else _) = _; rw [if_pos hl]
      | false =>
        refine iteT ⟨_, rfl, ?_⟩
        have e1 : firstW h.m ⟨[], []⟩ rs 0 = some i := by
          rw [fw]; show (if letsB h.m s r = true then _ else _) = _; rw [if_neg (by rw [hl]; decide)]
        have := k J3 s3
        rw [e1] at this
        exact this
    · obtain ⟨sm, s, o5, o6, rfl, G, kn, lh, rm, fw⟩ := q
      have lu := Reps.len hus
      rw [List.length_map] at lu
      rw [lu, List.drop_length] at fw
      have := k J sm
      rw [fw] at this
      exact this
end
end Ak
namespace Ak
open PySem L2
local macro_rules | `(tactic| walk_at "no attr") => `(tactic| exact rwF_no _ _ _ (by decide +kernel) (by decide +kernel) (by decide +kernel))
/-! ### the program's own: what is known of a program; what stands by a book -/
abbrev st_kn_init : Stmt := inClass (top 8) 0
theorem sc_kn_init : FnScope ["self", "program", "asks", "keepers", "functions", "ask", "keeper", "function", "hear"] ["self", "program"] (defScope st_kn_init) := ⟨rfl, rfl, rfl, by decide +kernel, rfl, by decide +kernel, by decide +kernel⟩
abbrev st_sd_init : Stmt := inClass (top 11) 0
theorem sc_sd_init : FnScope ["self", "program"] ["self", "program"] (defScope st_sd_init) := ⟨rfl, rfl, rfl, by decide +kernel, rfl, by decide +kernel, by decide +kernel⟩
/-- a method, as its class holds it -/
structure Md (K : PySem.W.Frag) (C : Addr) (nm qual : Str) (st : Stmt) (ps : List Str) (f : Addr) (fd : FuncData) : Prop where
  m : Meth K C nm f
  F : Fun K nm qual st f fd
  b : Binds K fd ps []
structure BltKn (K : PySem.W.Frag) (C : Addr) : Prop where
  cl_Known : Cls K C
  nA : NoAttr K C "asks"
  nK : NoAttr K C "keepers"
  nF : NoAttr K C "functions"
  nH : NoAttr K C "heard"
def spKnown (C : Addr) : Sp := fun vs H Q _ => ∃ (r dx : Addr) (v : V) (h : Hou), vs = [.ref r, v] ∧ H r = some (.ins C dx []) ∧ Rep H h.d v ∧ h.Ok ∧
  ∀ (d : Addr) (fs : List (Str × V)) (H' : Hp), H' r = some (.ins C dx fs) → fs.lookup ("heard" : Str) = some (V.ref d) → HdAt (fun a => H a = none) H' d h.m → (∀ b o, H b = some o → b ≠ r → H' b = some o) → Q .non H'
theorem same_ne {H H' : Hp} {r : Addr} (s : ∀ b o, H b = some o → b ≠ r → H' b = some o) {o : HO} (h : H r = some o) (n : ∀ xs, o ≠ .tup xs) : TupK H H' := fun p vs e => s p _ e (ne_of e h fun z => n vs z.symm)
theorem kAH : ¬ ((("heard" : Str)) = "asks") := by decide +kernel
theorem putK_lenc (c : List (Key × V)) (k : Key) (x : V) : (putK c k x).length ≤ c.length + 1 := by
  unfold putK
  split
  · rw [List.length_map]; omega
  · rw [List.length_append]; simp
section
variable {P : Program} {w : World} {K : PySem.W.Frag} {mg : Str → Option Value} {base : Heap} {C : Addr}
/-- a dict of rows by their names: all else stays -/
theorem dc_rows {σ : L2.St} {G : Hp} {a : Addr} {us : List V} {xs : List D} {nm : D → Str} {j : Nat} {Qd : Addr → Hp → Prop} {te : TE} {vs : List Nat} (hj : vs = [j]) (hjl' : ∃ o, σ[j]? = some o) (ha : G a = some (.tup us)) (hr : Reps G xs us) (hl : xs.length ≤ 1000)
    (hx : ∀ x ∈ xs, ∀ (H : Hp) (v : V), Rep H x v → ∃ p ws, v = .ref p ∧ H p = some (.tup (.str (nm x) :: ws))) (hte : te = tVar j)
    (q : ∀ D kvs J, G D = none → J D = some (.dK kvs) → Same G J → Qd D J) :
    ∀ D, G D = none → ∃ W : Nat → Nat → Hp → Prop, (∃ m, W 0 m (upd G D (.dK []))) ∧ ∀ i m H, W i m H →
      ((Itt K a).stop i H ∧ Qd D H) ∨ ((Itt K a).go i H ∧ ∃ Nx : Hp → Prop, (∀ H', Nx H' → ∃ m', m' < m ∧ W (i + 1) m' H') ∧ ∀ x H', (Itt K a).yld i H x H' → (gName j) x (wipe σ vs) H' fun σ2 H2 => wipe σ2 vs = wipe σ vs ∧ tYes σ2 H2 fun b H3 =>
        if b = true then (tOp (rIxT K) (tVar j) (tC (V.int 0))) σ2 H3 fun y H4 => te σ2 H4 fun z H5 => ∃ kvs k, y = kV k ∧ H5 D = some (.dK kvs) ∧ kvs.length < sizeLine ∧ Nx (upd H5 D (.dK (putK kvs k z))) else Nx H3) := by
  intro D hD
  subst hj hte
  have hjl : j < σ.length := by obtain ⟨o, e⟩ := hjl'; exact (List.getElem?_eq_some_iff.mp e).1
  have wl : (wipe σ [j])[j]? = some none := by
    show (σ.set j none)[j]? = _
    rw [List.getElem?_set_self hjl]
  refine dc_tup (K := K) (a := a) (xs := us) (fun i J => Same G J ∧ ∃ kvs, J D = some (.dK kvs) ∧ kvs.length ≤ i) ⟨Same.new hD, [], upd_same, Nat.le_refl _⟩ (fun i H _ z => SqT.of (z.1 _ _ ha)) (fun i x H hx1 z => ?_) fun H z => ?_
  · obtain ⟨sm, kvs, hJ, hk⟩ := z
    have lu := Reps.len hr
    have hi : i < us.length := (List.getElem?_eq_some_iff.mp hx1).1
    rw [lu] at hi
    have et : xs[i]? = some xs[i] := List.getElem?_eq_getElem hi
    have hm := List.mem_of_getElem? et
    obtain ⟨y, ey, ry⟩ := Reps.get (hr.mono (TupK.same sm)) et
    obtain rfl : y = x := by rw [ey] at hx1; exact Option.some.inj hx1
    obtain ⟨p, ws, rfl, hp⟩ := hx _ hm _ _ ry
    have sl : ((wipe σ [j]).set j (some (V.ref p)))[j]? = some (some (V.ref p)) := List.getElem?_set_self (by show j < (σ.set j none).length; rw [List.length_set]; exact hjl)
    refine ⟨?_, lc_yes ?_⟩
    · show ((σ.set j none).set j (some (V.ref p))).set j none = σ.set j none
      rw [List.set_set, List.set_set]
    · refine ⟨_, sl, p, _, 0, _, rfl, rfl, SqT.of hp, at0c _ _, _, sl, kvs, Sum.inr (nm xs[i]), rfl, hJ, Nat.lt_of_le_of_lt (by omega : _ ≤ 1000) (by decide), fun b o e => ?_, _, upd_same, ?_⟩
      · rw [upd_ne (ne_of_none e hD)]; exact sm b o e
      · have := putK_lenc kvs (Sum.inr (nm xs[i])) (V.ref p); omega
  · obtain ⟨sm, kvs, hJ, _⟩ := z
    exact q D kvs H hD hJ sm
theorem ok_kn_init {f : Addr} {fd : FuncData} (D : Md K C "__init__" "Known.__init__" st_kn_init ["self", "program"] f fd) (T : BltKn K C) : FnOk P w K mg base CX0 1 f fd ["self", "program"] (spKnown C) := by
  refine D.F.ok sc_kn_init (fun vs H Q E h => ?_) (fun cdv A0 outer s0 H vs Q E hr h => ?_)
  · obtain ⟨r, dx, v, h, rfl, _⟩ := h
    rfl
  · obtain ⟨r, dx, v, h, rfl, ho, hv, ok, k⟩ := h
    obtain ⟨p, a, kp, f0, ua, uk, uf, rfl, hp, ha, hk, hf, ra, rk, rf⟩ := Hou.at hv
    refine ⟨_, (pss_cons (ps_asg (pv 1) (pg_tup (by rfl) (pgs_cons (pg_name (i := 2) sc_kn_init.nd rfl (Or.inl rfl)) (pgs_cons (pg_name (i := 3) sc_kn_init.nd rfl (Or.inl rfl)) (pgs_cons (pg_name (i := 4) sc_kn_init.nd rfl (Or.inl rfl)) pgs_nil)))))
      (pss_cons (ps_fld (pv 0) (pe_dc (own := [("ask", 5)]) (g := gName 5) (tt := tYes) (tk := (tOp (rIxT K) (tVar 5) (tC (V.int 0)))) (tv := (tVar 5)) rfl sc_kn_init.nd (pi_tup (pv 2)) (blkOk_by (own := [("ask", 5)]) (N := ["self", "program", "asks", "keepers", "functions", "ask", "keeper", "function", "hear"]) (sc := defScope st_kn_init) (by decide +kernel)) (fun _ _ _ _ _ => (pg_name (i := 5) sc_kn_init.nd rfl (Or.inl rfl))) (fun _ _ _ _ _ => pts_nil) (fun _ _ _ _ _ => (pe_ix ix_tup (pv 5) pe_int (fun _ _ => rfl))) (fun _ _ _ _ _ => (pv 5))) rfl)
      (pss_cons (ps_fld (pv 0) (pe_dc (own := [("keeper", 6)]) (g := gName 6) (tt := tYes) (tk := (tOp (rIxT K) (tVar 6) (tC (V.int 0)))) (tv := (tVar 6)) rfl sc_kn_init.nd (pi_tup (pv 3)) (blkOk_by (own := [("keeper", 6)]) (N := ["self", "program", "asks", "keepers", "functions", "ask", "keeper", "function", "hear"]) (sc := defScope st_kn_init) (by decide +kernel)) (fun _ _ _ _ _ => (pg_name (i := 6) sc_kn_init.nd rfl (Or.inl rfl))) (fun _ _ _ _ _ => pts_nil) (fun _ _ _ _ _ => (pe_ix ix_tup (pv 6) pe_int (fun _ _ => rfl))) (fun _ _ _ _ _ => (pv 6))) rfl)
      (pss_cons (ps_fld (pv 0) (pe_dc (own := [("function", 7)]) (g := gName 7) (tt := tYes) (tk := (tOp (rIxT K) (tVar 7) (tC (V.int 0)))) (tv := (tVar 7)) rfl sc_kn_init.nd (pi_tup (pv 4)) (blkOk_by (own := [("function", 7)]) (N := ["self", "program", "asks", "keepers", "functions", "ask", "keeper", "function", "hear"]) (sc := defScope st_kn_init) (by decide +kernel)) (fun _ _ _ _ _ => (pg_name (i := 7) sc_kn_init.nd rfl (Or.inl rfl))) (fun _ _ _ _ _ => pts_nil) (fun _ _ _ _ _ => (pe_ix ix_tup (pv 7) pe_int (fun _ _ => rfl))) (fun _ _ _ _ _ => (pv 7))) rfl)
      (pss_one (ps_fld (pv 0) (pe_dc (own := [("keeper", 6)]) (g := gName 6) (tt := tYes) (tk := (tOp (rIxT K) (tVar 6) (tC (V.int 0)))) (tv := (tLc (iTup K (tOp (rIxT K) (tVar 6) (tC (V.int 5)))) (gName 8) tYes (tOp (rIxT K) (tVar 8) (tC (V.int 0))) [8])) rfl sc_kn_init.nd (pi_tup (pv 3)) (blkOk_by (own := [("keeper", 6)]) (N := ["self", "program", "asks", "keepers", "functions", "ask", "keeper", "function", "hear"]) (sc := defScope st_kn_init) (by decide +kernel)) (fun _ _ _ _ _ => (pg_name (i := 6) sc_kn_init.nd rfl (Or.inl rfl))) (fun _ _ _ _ _ => pts_nil) (fun _ _ _ _ _ => (pe_ix ix_tup (pv 6) pe_int (fun _ _ => rfl))) (fun _ _ _ _ _ => (pe_lc (own := [("hear", 8)]) (g := gName 8) (tt := tYes) (te := (tOp (rIxT K) (tVar 8) (tC (V.int 0)))) rfl sc_kn_init.nd (pi_tup (pe_ix ix_tup (pv 6) pe_int (fun _ _ => rfl))) (blkOk_by (own := [("hear", 8)]) (N := ["self", "program", "asks", "keepers", "functions", "ask", "keeper", "function", "hear"]) (sc := { kind := .function, names := [(".0", .local), ("keeper", .local)], isGenerator := false, isCoroutine := false }) (by decide +kernel)) (fun _ _ _ _ _ => (pg_name (i := 8) sc_kn_init.nd rfl (Or.inl rfl))) (fun _ _ _ _ _ => pts_nil) (fun _ _ _ _ _ => (pe_ix ix_tup (pv 8) pe_int (fun _ _ => rfl)))))) rfl)))))), ?_⟩
    have hxr : ∀ xs : List (Str × List Ak.D), ∀ x ∈ xs.map rowD, ∀ (H : Hp) (v : V), Rep H x v → ∃ p ws, v = .ref p ∧ H p = some (.tup (.str (match x with | .t (.s n :: _) => n | _ => Str.empty) :: ws)) := fun xs x hx H v rv => by
      obtain ⟨y, _, rfl⟩ := List.mem_map.mp hx
      obtain ⟨p, ws, e1, e2, _⟩ := rowD_at rv
      exact ⟨p, ws, e1, e2⟩
    have hxk : ∀ xs : List KpR, ∀ x ∈ xs.map KpR.d, ∀ (H : Hp) (v : V), Rep H x v → ∃ p ws, v = .ref p ∧ H p = some (.tup (.str (match x with | .t (.s n :: _) => n | _ => Str.empty) :: ws)) := fun xs x hx H v rv => by
      obtain ⟨y, _, rfl⟩ := List.mem_map.mp hx
      obtain ⟨p, _, _, _, _, _, _, e1, e2, _⟩ := KpR.at rv
      exact ⟨p, _, e1, e2⟩
    refine ⟨_, rfl, p, _, rfl, SqT.of hp, rfl, _, _, rfl, _, _, rfl, _, _, rfl, rfl, ?_⟩
    refine ⟨_, rfl, a, rfl, ⟨_, SqT.of ha⟩, ?_⟩
    refine dc_rows (K := K) (j := 5) (vs := [5]) rfl ?_ ha ra (by rw [List.length_map]; have := ok.1; omega) (hxr _) rfl fun D1 kv1 J1 hD1 _ s1 => ?_
    · exact ⟨_, rfl⟩
    refine ⟨_, rfl, r, C, dx, [], rfl, s1 _ _ ho, T.cl_Known, T.nA, by decide, ?_⟩
    have o1 := upd_same (H := J1) (a := r) (o := .ins C dx (putF "asks" (.ref D1) []))
    have k1 : ∀ b o, H b = some o → b ≠ r → (upd J1 r (.ins C dx (putF "asks" (.ref D1) []))) b = some o := fun b o e n => by rw [upd_ne n]; exact s1 _ _ e
    generalize upd J1 r (.ins C dx (putF "asks" (.ref D1) [])) = G1 at o1 k1 ⊢
    have t1 := same_ne k1 ho (fun _ z => nomatch z)
    refine ⟨_, rfl, kp, rfl, ⟨_, SqT.of (t1 _ _ hk)⟩, ?_⟩
    refine dc_rows (K := K) (j := 6) (vs := [6]) rfl ?_ (t1 _ _ hk) (rk.mono t1) (by rw [List.length_map]; have := ok.2.1; omega) (hxk _) rfl fun D2 kv2 J2 hD2 _ s2 => ?_
    · exact ⟨_, rfl⟩
    refine ⟨_, rfl, r, C, dx, _, rfl, s2 _ _ o1, T.cl_Known, T.nK, Nat.lt_of_le_of_lt (length_putF _ _ _) (by decide), ?_⟩
    have o2 := upd_same (H := J2) (a := r) (o := .ins C dx (putF "keepers" (.ref D2) (putF "asks" (.ref D1) [])))
    have k2 : ∀ b o, H b = some o → b ≠ r → (upd J2 r (.ins C dx (putF "keepers" (.ref D2) (putF "asks" (.ref D1) [])))) b = some o := fun b o e n => by rw [upd_ne n]; exact s2 _ _ (k1 _ _ e n)
    generalize upd J2 r (.ins C dx (putF "keepers" (.ref D2) (putF "asks" (.ref D1) []))) = G2 at o2 k2 ⊢
    have t2 := same_ne k2 ho (fun _ z => nomatch z)
    refine ⟨_, rfl, f0, rfl, ⟨_, SqT.of (t2 _ _ hf)⟩, ?_⟩
    refine dc_rows (K := K) (j := 7) (vs := [7]) rfl ?_ (t2 _ _ hf) (rf.mono t2) (by rw [List.length_map]; have := ok.2.2.1; omega) (hxr _) rfl fun D3 kv3 J3 hD3 _ s3 => ?_
    · exact ⟨_, rfl⟩
    have l2 : (putF "keepers" (V.ref D2) (putF "asks" (.ref D1) [])).length ≤ 2 := Nat.le_trans (length_putF _ _ _) (Nat.succ_le_succ (length_putF _ _ _))
    generalize putF "keepers" (V.ref D2) (putF "asks" (.ref D1) []) = fs2 at l2 o2
    refine ⟨_, rfl, r, C, dx, fs2, rfl, s3 _ _ o2, T.cl_Known, T.nF, Nat.lt_of_le_of_lt l2 (by decide), ?_⟩
    have o3 := upd_same (H := J3) (a := r) (o := .ins C dx (putF "functions" (.ref D3) fs2))
    have k3 : ∀ b o, H b = some o → b ≠ r → (upd J3 r (.ins C dx (putF "functions" (.ref D3) fs2))) b = some o := fun b o e n => by rw [upd_ne n]; exact s3 _ _ (k2 _ _ e n)
    have l3 : (putF "functions" (V.ref D3) fs2).length ≤ 3 := Nat.le_trans (length_putF _ _ _) (Nat.succ_le_succ l2)
    generalize putF "functions" (V.ref D3) fs2 = fs3 at l3 o3 k3 ⊢
    generalize upd J3 r (.ins C dx fs3) = G3 at o3 k3 ⊢
    have t3 := same_ne k3 ho (fun _ z => nomatch z)
    have rk3 := rk.mono t3
    refine ⟨_, rfl, kp, rfl, ⟨_, SqT.of (t3 _ _ hk)⟩, fun D4 hD4 => dc_tup (K := K) (a := kp) (xs := uk) (fun i J => Same G3 J ∧ ∃ kvs, J D4 = some (.dK kvs) ∧ HdR (fun a => H a = none) J (hdK (h.ks.take i)) kvs) ⟨Same.new hD4, [], upd_same, rfl⟩ (fun i J _ z => SqT.of (z.1 _ _ (t3 _ _ hk))) (fun i x J hx1 z => ?_) fun J z => ?_⟩
    · obtain ⟨sm, kvs, hJd, hr0⟩ := z
      have lk := Reps.len rk
      rw [List.length_map] at lk
      have hi : i < uk.length := (List.getElem?_eq_some_iff.mp hx1).1
      rw [lk] at hi
      have et : h.ks[i]? = some h.ks[i] := List.getElem?_eq_getElem hi
      have hmem := List.mem_of_getElem? et
      generalize h.ks[i] = kr at et hmem
      obtain ⟨y, ey, ry⟩ := Reps.get (rk3.mono (TupK.same sm)) (j := i) (d := kr.d) (by rw [List.getElem?_map, et]; rfl)
      obtain rfl : y = x := by rw [ey] at hx1; exact Option.some.inj hx1
      obtain ⟨q, hs, va, vb, vc, ve, ws, rfl, hq, hh, rw, _⟩ := KpR.at ry
      have lw := Reps.len rw
      rw [List.length_map] at lw
      have l100 := ok.2.2.2 kr hmem
      refine ⟨rfl, lc_yes ?_⟩
      refine ⟨_, rfl, q, _, 0, _, rfl, rfl, SqT.of hq, at0c _ _, _, rfl, q, _, 5, _, rfl, rfl, SqT.of hq, at_natc _ 5 rfl, hs, rfl, ⟨_, SqT.of hh⟩, fun L hL => lc_it walk_tup (fun i J' => Same J J' ∧ J' L = some (.lst (((kr.hs.map (·.1)).take i).map V.str))) ⟨Same.new hL, upd_same⟩ (fun i J' _ z => SqT.of (z.1 _ _ hh)) (fun j x J' J2 hj z yy => ?_) fun J' z => ?_⟩
      · obtain ⟨rfl, ex⟩ := yy
        obtain ⟨s2, hJ⟩ := z
        rw [lw] at hj
        have eh : kr.hs[j]? = some kr.hs[j] := List.getElem?_eq_getElem hj
        generalize kr.hs[j] = hr1 at eh
        obtain ⟨y, ey, ry⟩ := Reps.get (rw.mono (TupK.same s2)) (j := j) (d := rowD hr1) (by rw [List.getElem?_map, eh]; rfl)
        obtain rfl : y = x := by rw [ey] at ex; exact Option.some.inj ex
        obtain ⟨q2, ws2, rfl, hq2, _⟩ := rowD_at ry
        refine ⟨rfl, lc_yes ?_⟩
        refine ⟨_, rfl, q2, _, 0, _, rfl, rfl, SqT.of hq2, at0c _ _, _, hJ, ?_, fun b o e => ?_, ?_⟩
        · exact Nat.lt_of_le_of_lt (by rw [List.length_map, List.length_take, List.length_map]; omega : _ ≤ 100) (by decide)
        · rw [upd_ne (ne_of_none e hL)]; exact s2 b o e
        · rw [upd_same, List.take_add_one, List.getElem?_map, eh, List.map_append]; rfl
      · obtain ⟨s2, hJ⟩ := z
        rw [lw, show kr.hs.length = (kr.hs.map (·.1)).length by rw [List.length_map], List.take_length] at hJ
        have hd2 := s2 _ _ hJd
        have nL : D4 ≠ L := ne_of_none hJd hL
        refine ⟨kvs, Sum.inr kr.n, rfl, hd2, ?_, fun b o e => ?_, _, upd_same, ?_⟩
        · rw [hr0.len]
          exact Nat.lt_of_le_of_lt (Nat.le_trans (hdK_len _) (by rw [List.length_take]; have := ok.2.1; omega) : _ ≤ 50) (by decide)
        · rw [upd_ne (ne_of_none e hD4)]; exact s2 _ _ (sm _ _ e)
        · rw [List.take_add_one, et, Option.toList_some, hdK_snoc]
          have nH : H L = none := by
            cases e : H L with
            | none => rfl
            | some o =>
              by_cases hb : L = r
              · rw [hb, sm _ _ o3] at hL; cases hL
              · rw [sm _ _ (k3 _ _ e hb)] at hL; cases hL
          refine HdR.put (HdR.mono (fun _ _ x _ => x) (fun b o hb e => ?_) hr0) nH (by rw [upd_ne nL.symm]; exact hJ)
          rw [upd_ne (fun z => ?_)]
          · exact s2 _ _ e
          · rw [z, hJd] at e; cases e
    · obtain ⟨sm, kvs, hJd, hr0⟩ := z
      have lk := Reps.len rk
      rw [List.length_map] at lk
      rw [lk, List.take_length] at hr0
      refine ⟨_, rfl, r, C, dx, fs3, rfl, sm _ _ o3, T.cl_Known, T.nH, Nat.lt_of_le_of_lt l3 (by decide), ?_⟩
      have nD : H D4 = none := by
        cases e : H D4 with
        | none => rfl
        | some o =>
          by_cases hb : D4 = r
          · rw [hb, o3] at hD4; cases hD4
          · rw [k3 _ _ e hb] at hD4; cases hD4
      have nr : D4 ≠ r := fun z => by rw [z, ho] at nD; cases nD
      refine k D4 _ _ upd_same (by rw [lookup_putF, if_pos rfl]) ⟨nD, kvs, by rw [upd_ne nr]; exact hJd, hr0.mono (fun _ _ x _ => x) fun b o hb e => by rw [upd_ne (fun z => by rw [z, ho] at hb; cases hb)]; exact e⟩ fun b o e n => by rw [upd_ne n]; exact sm _ _ (k3 _ _ e n)
end
end Ak
namespace Ak
open PySem L2
local macro_rules | `(tactic| walk_at "no attr") => `(tactic| exact rwF_no _ _ _ (by decide +kernel) (by decide +kernel) (by decide +kernel))
/-! ### what stands by a book -/
abbrev st_sd_hears : Stmt := inClass (top 11) 1
theorem sc_sd_hears : FnScope ["self", "q", "n", "keeper"] ["self", "q", "n"] (defScope st_sd_hears) := ⟨rfl, rfl, rfl, by decide +kernel, rfl, by decide +kernel, by decide +kernel⟩
abbrev st_sd_lets : Stmt := inClass (top 11) 2
theorem sc_sd_lets : FnScope ["self", "row", "word", "about"] ["self", "row"] (defScope st_sd_lets) := ⟨rfl, rfl, rfl, by decide +kernel, rfl, by decide +kernel, by decide +kernel⟩
abbrev st_sd_do : Stmt := inClass (top 11) 3
theorem sc_sd_do : FnScope ["self", "row", "word", "about"] ["self", "row"] (defScope st_sd_do) := ⟨rfl, rfl, rfl, by decide +kernel, rfl, by decide +kernel, by decide +kernel⟩
theorem sIx_natC (n d a : Nat) : HT.sIx n d (some (a : Int)) = min a n := by
  unfold HT.sIx
  simp only []
  split <;> omega
theorem cut_fromC (xs : List V) (a : Nat) : cutV xs (some (a : Int)) none = xs.drop a := by
  unfold cutV
  rw [sIx_natC]
  show (xs.drop (min a xs.length)).take (xs.length - min a xs.length) = _
  rw [List.take_of_length_le (by rw [List.length_drop]; exact Nat.le_refl _)]
  by_cases h : a ≤ xs.length
  · rw [Nat.min_eq_left h]
  · rw [Nat.min_eq_right (by omega), List.drop_length, List.drop_eq_nil_of_le (by omega)]
theorem cut_toC (xs : List V) (b : Nat) : cutV xs none (some (b : Int)) = xs.take b := by
  unfold cutV
  rw [sIx_natC]
  show (xs.drop 0).take (min b xs.length - 0) = _
  rw [List.drop_zero, Nat.sub_zero]
  by_cases h : b ≤ xs.length
  · rw [Nat.min_eq_left h]
  · rw [Nat.min_eq_right (by omega), List.take_length, List.take_of_length_le (by omega)]
theorem slA_use {K : PySem.W.Frag} {H : Hp} {a : Addr} {xs : List V} {lo hi : Option Int} {Q : VK} (h : H a = some (.tup xs)) (k : ∀ p H', Same H H' → H' p = some (.tup (cutV xs lo hi)) → Q (.ref p) H') : rSlA K (.ref a) lo hi H Q := by
  refine ⟨a, xs, rfl, SqT.of h, fun e => k a H (Same.refl H) ?_, fun _ p hp => k p _ (Same.new hp) upd_same⟩
  unfold cutV
  rw [e.1, e.2, List.drop_zero, Nat.sub_zero, List.take_length]
  exact h
def fsS (dA S Hs : Addr) : List (Str × V) := putF "held" (.ref Hs) (putF "keepers" (.ref S) (putF "heard" (.ref dA) []))
theorem kHK : ¬ (("heard" : Str) = "keepers") := by decide +kernel
theorem kHh : ¬ (("heard" : Str) = "held") := by decide +kernel
theorem kKh : ¬ (("keepers" : Str) = "held") := by decide +kernel
theorem fsS_len (dA S Hs : Addr) : (fsS dA S Hs).length ≤ 3 := Nat.le_trans (length_putF _ _ _) (Nat.succ_le_succ (Nat.le_trans (length_putF _ _ _) (Nat.succ_le_succ (length_putF _ _ _))))
theorem fsS_heard (dA S Hs : Addr) : (fsS dA S Hs).lookup ("heard" : Str) = some (.ref dA) := by
  unfold fsS; rw [lookup_putF, if_neg kHh, lookup_putF, if_neg kHK, lookup_putF, if_pos rfl]
theorem fsS_keepers (dA S Hs : Addr) : (fsS dA S Hs).lookup ("keepers" : Str) = some (.ref S) := by
  unfold fsS; rw [lookup_putF, if_neg kKh, lookup_putF, if_pos rfl]
theorem fsS_held (dA S Hs : Addr) : (fsS dA S Hs).lookup ("held" : Str) = some (.ref Hs) := by
  unfold fsS; rw [lookup_putF, if_pos rfl]
theorem fsS_no {g : Str} (dA S Hs : Addr) (h1 : g ≠ "heard") (h2 : g ≠ "keepers") (h3 : g ≠ "held") : (fsS dA S Hs).lookup g = none := by
  unfold fsS; rw [lookup_putF, if_neg h3, lookup_putF, if_neg h2, lookup_putF, if_neg h1]; rfl
structure BltSt (K : PySem.W.Frag) (mg : Str → Option Value) (C CK fK : Addr) (t : Tok) : Prop where
  cl_Standing : Cls K C
  nK : NoAttr K C "keepers"
  nE : NoAttr K C "held"
  nH : NoAttr K C "heard"
  cl_Known : Cls K CK
  kH : NoAttr K CK "heard"
  mk_Known : Mk K CK fK
  c_Known : mg "Known" = some (.ref CK)
  c_TOP : mg "TOP" = some (.int 999999999 t)
  len : mg "len" = none
  any : mg "any" = none
  list : mg "list" = none
def StAt (C : Addr) (A : Addr → Prop) (H : Hp) (p dA S Hs : Addr) (m : HM) (s : BS) : Prop := (∃ dx, H p = some (.ins C dx (fsS dA S Hs))) ∧ GoAt A H dA S Hs m s
theorem StAt.same {C : Addr} {A : Addr → Prop} {H H' : Hp} {p dA S Hs : Addr} {m : HM} {s : BS} (h : StAt C A H p dA S Hs m s) (k : Same H H') : StAt C A H' p dA S Hs m s := by
  obtain ⟨⟨dx, h1⟩, h2⟩ := h
  exact ⟨⟨dx, k _ _ h1⟩, h2.same k⟩
def spStInit (C : Addr) : Sp := fun vs H Q _ => ∃ (r dx : Addr) (v : V) (h : Hou), vs = [.ref r, v] ∧ H r = some (.ins C dx []) ∧ Rep H h.d v ∧ h.Ok ∧
  ∀ (dA S Hs : Addr) (H' : Hp), StAt C (fun a => a ≠ S ∧ a ≠ Hs) H' r dA S Hs h.m ⟨[], []⟩ → H S = none → H Hs = none → (∀ b o, H b = some o → b ≠ r → H' b = some o) → Q .non H'
def spHearsAt (C : Addr) : Sp := fun vs H Q _ => ∃ (A : Addr → Prop) (p dA S Hs : Addr) (m : HM) (s : BS) (q : Str) (n : Int), vs = [.ref p, .str q, .int n] ∧ StAt C A H p dA S Hs m s ∧ KnS m s ∧ s.st.length ≤ MX ∧ ∀ H', Same H H' → Q (.bl (letsB m s (.ask q n))) H'
def spLets (C : Addr) : Sp := fun vs H Q _ => ∃ (A : Addr → Prop) (p dA S Hs : Addr) (v : V) (m : HM) (s : BS) (r : BR), vs = [.ref p, v] ∧ StAt C A H p dA S Hs m s ∧ Rep H r.d v ∧ KnS m s ∧ s.st.length ≤ MX ∧ s.hs.length ≤ 5000 ∧ ∀ H', Same H H' → Q (.bl (letsB m s r)) H'
def spDo (C : Addr) : Sp := fun vs H Q _ => ∃ (A : Addr → Prop) (p dA S Hs : Addr) (v : V) (m : HM) (s : BS) (r : BR), vs = [.ref p, v] ∧ StAt C A H p dA S Hs m s ∧ Rep H r.d v ∧ letsB m s r = true ∧ s.st.length ≤ MX ∧ s.hs.length ≤ 5000 ∧ (stepB s r).st.length ≤ MX ∧ (∀ a, H a = none → A a) ∧
  ∀ H', Kp S Hs H H' → StAt C A H' p dA S Hs m (stepB s r) → Q .non H'
section
variable {P : Program} {w : World} {K : PySem.W.Frag} {mg : Str → Option Value} {base : Heap} {C CK fK f1 : Addr} {dK d1 : FuncData} {t : Tok}
theorem ok_sd_init {f : Addr} {fd : FuncData} (D : Md K C "__init__" "Standing.__init__" st_sd_init ["self", "program"] f fd) (T : BltSt K mg C CK fK t) (D_kn_init : Md K CK "__init__" "Known.__init__" st_kn_init ["self", "program"] fK dK) (G_kn_init : FnOk P w K mg base CX0 1 fK dK ["self", "program"] (spKnown CK)) : FnOk P w K mg base CX0 3 f fd ["self", "program"] (spStInit C) := by
  refine D.F.ok sc_sd_init (fun vs H Q E h => ?_) (fun cdv A0 outer s0 H vs Q E hr h => ?_)
  · obtain ⟨r, dx, v, h, rfl, _⟩ := h
    rfl
  · obtain ⟨r, dx, v, h, rfl, ho, hv, ok, k⟩ := h
    refine ⟨_, (pss_cons (ps_fld (pv 0) (pe_fld (pe_make T.mk_Known G_kn_init (hr.mono (by decide)) (by rfl) T.c_Known D_kn_init.b .nil pass0 (pa_cons (pv 1) pa_nil)) rfl) rfl)
      (pss_cons (ps_fld (pv 0) (pe_lst pa_nil) rfl)
      (pss_one (ps_fld (pv 0) (pe_lst pa_nil) rfl)))), ?_⟩
    refine ⟨_, rfl, fun x dx2 hx hdx ne => ?_⟩
    have hx1 : (upd H dx2 (.own x)) x = none := by rw [upd_ne ne.symm]; exact hx
    have s1 : Same H (upd (upd H dx2 (.own x)) x (.ins CK dx2 [])) := (Same.new hdx).trans (Same.new hx1)
    refine ⟨x, dx2, v, h, rfl, upd_same, hv.mono (TupK.same s1), ok, fun d fs H1 e1 e2 e3 e4 => ⟨rfl, x, CK, dx2, fs, _, rfl, e1, T.cl_Known, T.kH, e2, ?_⟩⟩
    have s2 : Same H H1 := fun b o e => e4 b o (s1 b o e) (ne_of_none e hx)
    have e3' : HdAt (fun a => H a = none) H1 d h.m := e3.mono (fun a o z _ => s1.free z) (KpA.same (Same.refl _))
    refine ⟨_, rfl, r, C, dx, [], rfl, s2 _ _ ho, T.cl_Standing, T.nH, by decide, ?_⟩
    have o1 := upd_same (H := H1) (a := r) (o := .ins C dx (putF "heard" (.ref d) []))
    have k1 : ∀ b o, H b = some o → b ≠ r → (upd H1 r (.ins C dx (putF "heard" (.ref d) []))) b = some o := fun b o e n => by rw [upd_ne n]; exact s2 _ _ e
    have hd1 : HdAt (fun a => H a = none) (upd H1 r (.ins C dx (putF "heard" (.ref d) []))) d h.m := e3'.mono (fun _ _ x _ => x) fun b o hb e => by rw [upd_ne (fun z => by rw [z, ho] at hb; cases hb)]; exact e
    generalize upd H1 r (.ins C dx (putF "heard" (.ref d) [])) = G1 at o1 k1 hd1 ⊢
    refine ⟨Nat.zero_le _, fun S hS => ⟨_, rfl, r, C, dx, _, rfl, (Same.new hS) _ _ o1, T.cl_Standing, T.nK, Nat.lt_of_le_of_lt (length_putF _ _ _) (by decide), ?_⟩⟩
    have nS : S ≠ r := fun z => by rw [z, o1] at hS; cases hS
    have o2 := upd_same (H := upd G1 S (.lst [])) (a := r) (o := .ins C dx (putF "keepers" (.ref S) (putF "heard" (.ref d) [])))
    have l2 : (upd (upd G1 S (.lst [])) r (.ins C dx (putF "keepers" (.ref S) (putF "heard" (.ref d) [])))) S = some (.lst []) := by rw [upd_ne nS]; exact upd_same
    have hS0 : H S = none := by
      cases e : H S with
      | none => rfl
      | some o => rw [k1 _ _ e nS] at hS; cases hS
    have k2 : ∀ b o, H b = some o → b ≠ r → (upd (upd G1 S (.lst [])) r (.ins C dx (putF "keepers" (.ref S) (putF "heard" (.ref d) [])))) b = some o := fun b o e n => by rw [upd_ne n]; exact Same.new hS _ _ (k1 _ _ e n)
    have hd2 : HdAt (fun a => H a = none ∧ a ≠ S) (upd (upd G1 S (.lst [])) r (.ins C dx (putF "keepers" (.ref S) (putF "heard" (.ref d) [])))) d h.m := hd1.mono (fun a o z e => ⟨z, ne_of_none e hS⟩) fun b o hb e => by rw [upd_ne (fun z => by rw [z, ho] at hb; cases hb)]; exact Same.new hS _ _ e
    generalize upd (upd G1 S (.lst [])) r (.ins C dx (putF "keepers" (.ref S) (putF "heard" (.ref d) []))) = G2 at o2 k2 hd2 l2 ⊢
    refine ⟨Nat.zero_le _, fun Hs hHs => ⟨_, rfl, r, C, dx, _, rfl, (Same.new hHs) _ _ o2, T.cl_Standing, T.nE, Nat.lt_of_le_of_lt (Nat.le_trans (length_putF _ _ _) (Nat.succ_le_succ (length_putF _ _ _))) (by decide), ?_⟩⟩
    have nH : Hs ≠ r := fun z => by rw [z, o2] at hHs; cases hHs
    have nSH : S ≠ Hs := ne_of_none l2 hHs
    have hH0 : H Hs = none := by
      cases e : H Hs with
      | none => rfl
      | some o => rw [k2 _ _ e nH] at hHs; cases hHs
    refine k d S Hs _ ⟨⟨dx, upd_same⟩, hd2.mono (fun a o z e => ⟨z.2, ne_of_none e hHs⟩) (fun b o hb e => by rw [upd_ne (fun z => by rw [z, ho] at hb; cases hb.1)]; exact Same.new hHs _ _ e), ?_, ⟨[], ?_, rfl⟩, fun z => z.1 rfl, fun z => z.2 rfl, nSH⟩ hS0 hH0 fun b o e n => ?_
    · rw [upd_ne nS]; exact Same.new hHs _ _ l2
    · rw [upd_ne nH]; exact upd_same
    · rw [upd_ne n]; exact Same.new hHs _ _ (k2 _ _ e n)
theorem ok_sd_hears {f : Addr} {fd : FuncData} (D : Md K C "hears_at" "Standing.hears_at" st_sd_hears ["self", "q", "n"] f fd) (T : BltSt K mg C CK fK t) : FnOk P w K mg base CX0 1 f fd ["self", "q", "n"] (spHearsAt C) := by
  refine D.F.ok sc_sd_hears (fun vs H Q E h => ?_) (fun cdv A0 outer s0 H vs Q E hr h => ?_)
  · obtain ⟨A, p, dA, S, Hs, m, s, q, n, rfl, _⟩ := h
    rfl
  · obtain ⟨A, p, dA, S, Hs, m, s, q, n, rfl, ⟨⟨dx, ho⟩, G⟩, kn, ls, k⟩ := h
    have hu := hu_of hr
    obtain ⟨⟨aD, kvs, hD, hdr⟩, hS, ⟨us, hHs, lus⟩, n1, n2, ne⟩ := G
    refine ⟨_, (pss_cons (ps_if (PW.pt (pw_or (pt_not (pt_chain op_le op_lt pe_int (pv 2) (pe_callB call_len_seq (by rfl) T.len (by decide +kernel) (pa_cons (pe_fld (pv 0) rfl) pa_nil)))) (pw_or1 (pt_cmpR op_notIn_seq (pv 1) (pe_dget hu (pe_fld (pv 0) rfl) (pe_ix ix_list (pe_fld (pv 0) rfl) (pv 2) (fun _ _ => rfl)) (fun _ _ => rfl)) (by rfl))))) (pss_one (ps_ret pe_bl)) pss_nil)
      (pss_one (ps_ret (pe_not (pe_callB (cr_any rfl) (by rfl) T.any (by decide +kernel) (pa_cons (pe_lc (own := [("keeper", 3)]) (g := gName 3) (tt := tYes) (te := (tOp (rIn K false) (tVar 1) (tDGet (tFld K (tVar 0) "heard") (tVar 3)))) rfl sc_sd_hears.nd (pi_list (pe_slice sl_list (pe_fld (pv 0) rfl) (po_some (pe_op op_add (pv 2) pe_int)) po_none)) (blkOk_by (own := [("keeper", 3)]) (N := ["self", "q", "n", "keeper"]) (sc := defScope st_sd_hears) (by decide +kernel)) (fun _ _ _ _ _ => (pg_name (i := 3) sc_sd_hears.nd rfl (Or.inl rfl))) (fun _ _ _ _ _ => pts_nil) (fun _ _ _ _ _ => (pe_cmpR op_in_seq (pv 1) (pe_dget hu (pe_fld (pv 0) rfl) (pv 3) (fun _ _ => rfl)) (by rfl)))) pa_nil)))))), ?_⟩
    have lt := mx_lt ls
    have fin : ∀ (b : Bool) (J : Hp), b = letsB m s (.ask q n) → Same H J → Q (.bl b) J := fun b J e sm => by rw [e]; exact k J sm
    have e0 : letsB m s (.ask q n) = (decide (0 ≤ n ∧ n < (s.st.length : Int)) && (hrs m q (s.st[n.toNat]?.getD Str.empty) && !(s.st.drop (n.toNat + 1)).any (hrs m q))) := rfl
    refine ⟨_, rfl, _, _, rfl, rfl, _, rfl, ?_⟩
    by_cases h0 : 0 ≤ n
    · rw [decide_eq_true h0]
      refine iteT ⟨_, rfl, p, C, dx, _, _, rfl, ho, T.cl_Standing, T.nK, fsS_keepers _ _ _, S, _, rfl, .inl (SqL.of hS), _, _, rfl, rfl, _, rfl, ?_⟩
      rw [List.length_map]
      by_cases h1 : n < (s.st.length : Int)
      · rw [decide_eq_true h1]
        rw [decide_eq_true ⟨h0, h1⟩, Bool.true_and] at e0
        have hi : n.toNat < s.st.length := by omega
        have et : s.st[n.toNat]? = some s.st[n.toNat] := List.getElem?_eq_getElem hi
        have hm := List.mem_of_getElem? et
        generalize s.st[n.toNat] = x at et hm
        rw [et, Option.getD_some] at e0
        have hk := kn.1 x hm
        rcases hdr.get (k := x) with ⟨g1, g2⟩ | ⟨qs, a, g1, g2, _, ga⟩
        · rw [g1] at hk; cases hk
        have hx : atI (s.st.map V.str) n = some (.str x) := by
          have := at_natc (s.st.map V.str) n.toNat (v := .str x) (by rw [List.getElem?_map, et]; rfl)
          rwa [Int.toNat_of_nonneg h0] at this
        refine iteF ⟨_, rfl, _, rfl, p, C, dx, _, _, rfl, ho, T.cl_Standing, T.nH, fsS_heard _ _ _, _, rfl, p, C, dx, _, _, rfl, ho, T.cl_Standing, T.nK, fsS_keepers _ _ _, _, rfl, S, _, n, _, rfl, rfl, SqL.of hS, hx, dA, _, rfl, by rw [← g2]; exact DGet.k (k := Sum.inr x) hD, a, _, rfl, .inl (SqL.of ga), rfl, flat_strs _, _, rfl, ?_⟩
        show (if (!inV (.str q) (qs.map V.str)) = true then _ else _)
        rw [in_strsB, ← hrs_get g1 q]
        cases hh : hrs m q x with
        | false =>
          rw [hh, Bool.false_and] at e0
          exact iteT (fin _ _ e0.symm (Same.refl H))
        | true =>
          rw [hh, Bool.true_and] at e0
          refine iteF ⟨_, rfl, p, C, dx, _, _, rfl, ho, T.cl_Standing, T.nK, fsS_keepers _ _ _, _, rfl, _, _, rfl, rfl, n + 1, rfl, S, _, rfl, SqL.of hS, fun q0 hq0 => ?_⟩
          have ecut : cutV (s.st.map V.str) (some (n + 1)) none = (s.st.drop (n.toNat + 1)).map V.str := by
            rw [show n + 1 = ((n.toNat + 1 : Nat) : Int) by omega, cut_fromC, List.map_drop]
          rw [ecut]
          have s1 := Same.new (o := .lst ((s.st.drop (n.toNat + 1)).map V.str)) hq0
          have a1 := upd_same (H := H) (a := q0) (o := .lst ((s.st.drop (n.toNat + 1)).map V.str))
          generalize upd H q0 (.lst ((s.st.drop (n.toNat + 1)).map V.str)) = G at s1 a1 ⊢
          have hdm : ∀ y ∈ s.st.drop (n.toNat + 1), (getH m y).isSome = true := fun y hy => kn.1 y (List.mem_of_mem_drop hy)
          have ldr : (s.st.drop (n.toNat + 1)).length ≤ s.st.length := by rw [List.length_drop]; omega
          generalize s.st.drop (n.toNat + 1) = rest at a1 e0 hdm ldr
          refine ⟨q0, rfl, ⟨_, SqL.of a1⟩, fun L hL => lc_it walk_list (fun i J => Same G J ∧ J L = some (.lst ((rest.take i).map fun k => V.bl (hrs m q k)))) ⟨Same.new hL, upd_same⟩ (fun i J _ z => SqL.of (z.1 _ _ a1)) (fun i x J J1 hi z yy => ?_) fun J z => ?_⟩
          · obtain ⟨rfl, ex⟩ := yy
            obtain ⟨sm, hJ⟩ := z
            rw [List.length_map] at hi
            have eh : rest[i]? = some rest[i] := List.getElem?_eq_getElem hi
            have hmi := List.mem_of_getElem? eh
            generalize rest[i] = y at eh hmi
            have ex' : (rest.map V.str)[i]? = some x := ex
            rw [List.getElem?_map, eh] at ex'
            obtain rfl : V.str y = x := Option.some.inj ex'
            have sHJ := s1.trans sm
            have hk2 := hdm y hmi
            rcases hdr.get (k := y) with ⟨g1, g2⟩ | ⟨qs2, a2, g1, g2, _, ga2⟩
            · rw [g1] at hk2; cases hk2
            refine ⟨rfl, lc_yes ?_⟩
            refine ⟨_, rfl, _, rfl, p, C, dx, _, _, rfl, sHJ _ _ ho, T.cl_Standing, T.nH, fsS_heard _ _ _, _, rfl, dA, _, rfl, by rw [← g2]; exact DGet.k (k := Sum.inr y) (sHJ _ _ hD), a2, _, rfl, .inl (SqL.of (sHJ _ _ ga2)), rfl, flat_strs _, _, hJ, ?_, fun b o e => ?_, ?_⟩
            · rw [List.length_map, List.length_take]; omega
            · rw [upd_ne (ne_of_none e hL)]; exact sm b o e
            · rw [upd_same, List.take_add_one, eh, List.map_append]
              show some (HO.lst (_ ++ [V.bl (if false = true then _ else inV (.str q) (qs2.map V.str))])) = _
              rw [in_strsB, ← hrs_get g1 q]; rfl
          · obtain ⟨sm, hJ⟩ := z
            rw [List.length_map, List.take_length, show (fun k => V.bl (hrs m q k)) = V.bl ∘ hrs m q from rfl, ← List.map_map] at hJ
            refine ⟨L, _, rfl, SqL.of hJ, _, rfl, fin _ _ ?_ (s1.trans sm)⟩
            rw [e0, List.any_map]; rfl
      · rw [decide_eq_false h1]
        rw [decide_eq_false (fun z => h1 z.2), Bool.false_and] at e0
        exact iteT (iteT (fin _ _ e0.symm (Same.refl H)))
    · rw [decide_eq_false h0]
      rw [decide_eq_false (fun z => h0 z.1), Bool.false_and] at e0
      exact iteF ⟨_, rfl, iteT (iteT (fin _ _ e0.symm (Same.refl H)))⟩
end
end Ak
namespace Ak
open PySem L2
local macro_rules | `(tactic| walk_at "no attr") => `(tactic| exact rwF_no _ _ _ (by decide +kernel) (by decide +kernel) (by decide +kernel))
/-! ### whether a row may come; what it does -/
theorem cut2 (x y : V) (r : List V) : cutV (x :: y :: r) none (some 2) = [x, y] := (cut_toC (x :: y :: r) 2).trans rfl
def BR.wd : BR → Str | .keep _ => "keep" | .ended _ => "ended" | .ask _ _ => "ask" | .go _ => "go" | .tell _ => "tell"
def BR.ab : BR → V | .keep k => .str k | .ended k => .str k | .ask q _ => .str q | .go j => .int j | .tell v => .int v
def BR.rs : BR → List V | .ask _ n => [.int n] | _ => []
theorem BR.at {H : Hp} {r : BR} {v : V} (h : Rep H r.d v) : ∃ p, v = .ref p ∧ H p = some (.tup (.str r.wd :: r.ab :: r.rs)) := by
  cases r with
  | ask q n =>
    obtain ⟨p, vs, rfl, hp, _, _, rfl, rfl, _, _, rfl, rfl, _, _, rfl, rfl, e⟩ := h
    cases e
    exact ⟨p, rfl, hp⟩
  | keep k =>
    obtain ⟨p, vs, rfl, hp, _, _, rfl, rfl, _, _, rfl, rfl, e⟩ := h
    cases e
    exact ⟨p, rfl, hp⟩
  | ended k =>
    obtain ⟨p, vs, rfl, hp, _, _, rfl, rfl, _, _, rfl, rfl, e⟩ := h
    cases e
    exact ⟨p, rfl, hp⟩
  | go k =>
    obtain ⟨p, vs, rfl, hp, _, _, rfl, rfl, _, _, rfl, rfl, e⟩ := h
    cases e
    exact ⟨p, rfl, hp⟩
  | tell k =>
    obtain ⟨p, vs, rfl, hp, _, _, rfl, rfl, _, _, rfl, rfl, e⟩ := h
    cases e
    exact ⟨p, rfl, hp⟩
section
variable {P : Program} {w : World} {K : PySem.W.Frag} {mg : Str → Option Value} {base : Heap} {C CK fK f1 : Addr} {dK d1 : FuncData} {t : Tok}
theorem ok_sd_lets {f : Addr} {fd : FuncData} (D : Md K C "lets_by" "Standing.lets_by" st_sd_lets ["self", "row"] f fd) (T : BltSt K mg C CK fK t) (D_sd_hears : Md K C "hears_at" "Standing.hears_at" st_sd_hears ["self", "q", "n"] f1 d1) (G_sd_hears : FnOk P w K mg base CX0 1 f1 d1 ["self", "q", "n"] (spHearsAt C)) : FnOk P w K mg base CX0 2 f fd ["self", "row"] (spLets C) := by
  refine D.F.ok sc_sd_lets (fun vs H Q E h => ?_) (fun cdv A0 outer s0 H vs Q E hr h => ?_)
  · obtain ⟨A, p, dA, S, Hs, v, m, s, r, rfl, _⟩ := h
    rfl
  · obtain ⟨A, p, dA, S, Hs, v, m, s, r, rfl, Sat, hv, kn, ls, lh, k⟩ := h
    have hu := hu_of hr
    obtain ⟨pr, rfl, hp⟩ := BR.at hv
    refine ⟨_, (pss_cons (ps_asg (pe_slice sl_tupA (pv 1) po_none (po_some pe_int)) (pg_tup (by rfl) (pgs_cons (pg_name (i := 2) sc_sd_lets.nd rfl (Or.inl rfl)) (pgs_cons (pg_name (i := 3) sc_sd_lets.nd rfl (Or.inl rfl)) pgs_nil))))
      (pss_cons (ps_if (pt_cmpR op_eq (pv 2) pe_str (nomark _)) (pss_one (ps_ret (pe_cmp (pc_din hu (pv 3) (pe_fld (pv 0) rfl))))) pss_nil)
      (pss_cons (ps_if (pt_cmpR op_eq (pv 2) pe_str (nomark _)) (pss_one (ps_ret (pe_and (pe_cmpR op_gt (pe_callB call_len_seq (by rfl) T.len (by decide +kernel) (pa_cons (pe_fld (pv 0) rfl) pa_nil)) pe_int (nomark _)) (pe_one (pe_cmpR op_eq (pe_ix ix_list (pe_fld (pv 0) rfl) (pe_un un_neg pe_int) (fun _ _ => rfl)) (pv 3) (nomark _)))))) pss_nil)
      (pss_cons (ps_if (pt_cmpR op_eq (pv 2) pe_str (nomark _)) (pss_one (ps_ret (pe_meth (pv 0) T.cl_Standing D_sd_hears.m G_sd_hears (hr.mono (by decide)) D_sd_hears.b .nil pass0 (pa_cons (pv 3) (pa_cons (pe_ix ix_tup (pv 1) pe_int (fun _ _ => rfl)) pa_nil))))) pss_nil)
      (pss_cons (ps_if (pt_cmpR op_eq (pv 2) pe_str (nomark _)) (pss_one (ps_ret (pe_chain op_le op_lt pe_int (pv 3) (pe_callB call_len_seq (by rfl) T.len (by decide +kernel) (pa_cons (pe_fld (pv 0) rfl) pa_nil))))) pss_nil)
      (pss_one (ps_ret (pe_chain op_le op_le pe_int (pv 3) (pe_glob (v := .int 999999999) rfl T.c_TOP ⟨_, rfl⟩))))))))), ?_⟩
    refine ⟨_, rfl, 2, rfl, slA_use hp fun p2 J s1 h2 => ?_⟩
    rw [cut2] at h2
    refine ⟨p2, _, rfl, SqT.of h2, rfl, _, _, rfl, _, _, rfl, rfl, ?_⟩
    have SatJ := Sat.same s1
    have hpJ := s1 _ _ hp
    obtain ⟨⟨dx, ho⟩, ⟨⟨aD, kvs, hD, hdr⟩, hS, ⟨us, hHs, lus⟩, n1, n2, ne⟩⟩ := id SatJ
    have fin : ∀ (b : Bool) (J' : Hp), b = letsB m s r → Same J J' → Q (.bl b) J' := fun b J' e sm => by rw [e]; exact k J' (s1.trans sm)
    have lt := mx_lt ls
    cases r with
    | keep kk =>
      refine ⟨_, rfl, rfl, _, rfl, ite2 (fun _ => ?_) fun c => absurd (decide_eq_true rfl) c⟩
      refine ⟨_, rfl, _, rfl, p, C, dx, _, _, rfl, ho, T.cl_Standing, T.nH, fsS_heard _ _ _, dA, _, rfl, DGet.k (k := Sum.inr kk) hD, fin _ _ ?_ (Same.refl _)⟩
      show _ = (getH m kk).isSome
      rcases hdr.get (k := kk) with ⟨g1, g2⟩ | ⟨qs, a, g1, g2, _⟩ <;> rw [g1, g2] <;> rfl
    | ended kk =>
      refine ⟨_, rfl, rfl, _, rfl, ite2 (fun c => absurd (V.str.inj (of_decide_eq_true c)) (by show ¬ ("ended" : Str) = _; decide +kernel)) fun _ => ?_⟩
      refine ⟨_, rfl, rfl, _, rfl, ite2 (fun _ => ?_) fun c => absurd (decide_eq_true rfl) c⟩
      refine ⟨_, rfl, p, C, dx, _, _, rfl, ho, T.cl_Standing, T.nK, fsS_keepers _ _ _, S, _, rfl, .inl (SqL.of hS), _, _, rfl, rfl, _, rfl, ?_⟩
      rcases List.eq_nil_or_concat s.st with h0 | ⟨ini, x, h0⟩
      · rw [h0]
        refine iteF (fin _ _ ?_ (Same.refl _))
        show false = decide (s.st.getLast? = some kk)
        rw [h0]; rfl
      · rw [List.concat_eq_append] at h0
        rw [h0] at hS
        have e1 : (s.st.map V.str).length = ini.length + 1 := by rw [List.length_map, h0, List.length_append]; rfl
        rw [e1, show (decide ((0 : Int) < ((ini.length + 1 : Nat) : Int))) = true from decide_eq_true (by omega)]
        rw [List.map_append, List.map_cons, List.map_nil] at hS
        refine iteT ⟨_, rfl, p, C, dx, _, _, rfl, ho, T.cl_Standing, T.nK, fsS_keepers _ _ _, 1, rfl, S, _, -1, _, rfl, rfl, SqL.of hS, at_lastc _ _, _, rfl, rfl, fin _ _ ?_ (Same.refl _)⟩
        show _ = decide (s.st.getLast? = some kk)
        rw [h0, List.getLast?_concat]
        show decide (V.str x = V.str kk) = _
        exact decide_eq_decide.mpr ⟨fun z => by injection z with z; rw [z], fun z => by injection z with z; rw [z]⟩
    | ask q n =>
      refine ⟨_, rfl, rfl, _, rfl, ite2 (fun c => absurd (V.str.inj (of_decide_eq_true c)) (by show ¬ ("ask" : Str) = _; decide +kernel)) fun _ => ?_⟩
      refine ⟨_, rfl, rfl, _, rfl, ite2 (fun c => absurd (V.str.inj (of_decide_eq_true c)) (by show ¬ ("ask" : Str) = _; decide +kernel)) fun _ => ?_⟩
      refine ⟨_, rfl, rfl, _, rfl, ite2 (fun _ => ?_) fun c => absurd (decide_eq_true rfl) c⟩
      refine ⟨_, rfl, p, dx, _, rfl, ho, fsS_no _ _ _ (by decide +kernel) (by decide +kernel) (by decide +kernel), _, rfl, _, rfl, pr, _, 2, _, rfl, rfl, SqT.of hpJ, at_natc _ 2 rfl, A, p, dA, S, Hs, m, s, q, n, rfl, SatJ, kn, ls, fun J' s' => fin _ _ rfl s'⟩
    | go j =>
      refine ⟨_, rfl, rfl, _, rfl, ite2 (fun c => absurd (V.str.inj (of_decide_eq_true c)) (by show ¬ ("go" : Str) = _; decide +kernel)) fun _ => ?_⟩
      refine ⟨_, rfl, rfl, _, rfl, ite2 (fun c => absurd (V.str.inj (of_decide_eq_true c)) (by show ¬ ("go" : Str) = _; decide +kernel)) fun _ => ?_⟩
      refine ⟨_, rfl, rfl, _, rfl, ite2 (fun c => absurd (V.str.inj (of_decide_eq_true c)) (by show ¬ ("go" : Str) = _; decide +kernel)) fun _ => ?_⟩
      refine ⟨_, rfl, rfl, _, rfl, ite2 (fun _ => ?_) fun c => absurd (decide_eq_true rfl) c⟩
      refine ⟨_, rfl, _, _, rfl, rfl, _, rfl, ?_⟩
      have e0 : letsB m s (.go j) = decide (0 ≤ j ∧ j < (s.hs.length : Int)) := rfl
      by_cases h0 : 0 ≤ j
      · rw [decide_eq_true h0]
        refine iteT ⟨_, rfl, p, C, dx, _, _, rfl, ho, T.cl_Standing, T.nE, fsS_held _ _ _, Hs, _, rfl, .inl (SqL.of hHs), _, _, rfl, rfl, fin _ _ ?_ (Same.refl _)⟩
        rw [e0, lus.len]
        exact decide_eq_decide.mpr ⟨fun z => ⟨h0, z⟩, fun z => z.2⟩
      · rw [decide_eq_false h0]
        exact iteF (fin _ _ (by rw [e0]; exact (decide_eq_false fun z => h0 z.1).symm) (Same.refl _))
    | tell x =>
      refine ⟨_, rfl, rfl, _, rfl, ite2 (fun c => absurd (V.str.inj (of_decide_eq_true c)) (by show ¬ ("tell" : Str) = _; decide +kernel)) fun _ => ?_⟩
      refine ⟨_, rfl, rfl, _, rfl, ite2 (fun c => absurd (V.str.inj (of_decide_eq_true c)) (by show ¬ ("tell" : Str) = _; decide +kernel)) fun _ => ?_⟩
      refine ⟨_, rfl, rfl, _, rfl, ite2 (fun c => absurd (V.str.inj (of_decide_eq_true c)) (by show ¬ ("tell" : Str) = _; decide +kernel)) fun _ => ?_⟩
      refine ⟨_, rfl, rfl, _, rfl, ite2 (fun c => absurd (V.str.inj (of_decide_eq_true c)) (by show ¬ ("tell" : Str) = _; decide +kernel)) fun _ => ?_⟩
      refine ⟨_, rfl, _, _, rfl, rfl, _, rfl, ?_⟩
      have e0 : letsB m s (.tell x) = decide (0 ≤ x ∧ x ≤ 999999999) := rfl
      by_cases h0 : 0 ≤ x
      · rw [decide_eq_true h0]
        refine iteT ⟨_, _, rfl, rfl, fin _ _ ?_ (Same.refl _)⟩
        rw [e0]
        exact decide_eq_decide.mpr ⟨fun z => ⟨h0, z⟩, fun z => z.2⟩
      · rw [decide_eq_false h0]
        exact iteF (fin _ _ (by rw [e0]; exact (decide_eq_false fun z => h0 z.1).symm) (Same.refl _))
theorem ok_sd_do {f : Addr} {fd : FuncData} (D : Md K C "do_row" "Standing.do_row" st_sd_do ["self", "row"] f fd) (T : BltSt K mg C CK fK t) : FnOk P w K mg base CX0 1 f fd ["self", "row"] (spDo C) := by
  refine D.F.ok sc_sd_do (fun vs H Q E h => ?_) (fun cdv A0 outer s0 H vs Q E hr h => ?_)
  · obtain ⟨A, p, dA, S, Hs, v, m, s, r, rfl, _⟩ := h
    rfl
  · obtain ⟨A, p, dA, S, Hs, v, m, s, r, rfl, Sat, hv, hlets, ls, lh, lst, fr0, k⟩ := h
    have hu := hu_of hr
    obtain ⟨pr, rfl, hp⟩ := BR.at hv
    refine ⟨_, (pss_cons (ps_asg (pe_slice sl_tupA (pv 1) po_none (po_some pe_int)) (pg_tup (by rfl) (pgs_cons (pg_name (i := 2) sc_sd_do.nd rfl (Or.inl rfl)) (pgs_cons (pg_name (i := 3) sc_sd_do.nd rfl (Or.inl rfl)) pgs_nil))))
      (pss_one (ps_if (pt_cmpR op_eq (pv 2) pe_str (nomark _)) (pss_one (ps_expr (pe_bm PySem.F.plainAttrs_list PySem.F.slot_list_append PySem.F.type_list_append mt_append (pe_fld (pv 0) rfl) (pa_cons (pv 3) pa_nil)))) (pss_one (ps_if (pt_cmpR op_eq (pv 2) pe_str (nomark _)) (pss_one (ps_expr (pe_bm0 PySem.F.plainAttrs_list PySem.F.slot_list_pop PySem.F.type_list_pop mt_pop (pe_fld (pv 0) rfl)))) (pss_one (ps_if (pt_cmpR op_eq (pv 2) pe_str (nomark _)) (pss_cons (ps_expr (pe_bm PySem.F.plainAttrs_list PySem.F.slot_list_append PySem.F.type_list_append mt_append (pe_fld (pv 0) rfl) (pa_cons (pe_slice sl_list (pe_fld (pv 0) rfl) (po_some (pe_ix ix_tup (pv 1) pe_int (fun _ _ => rfl))) po_none) pa_nil)))
      (pss_one (Ak.ps_delSlc (pe_fld (pv 0) rfl) (pe_ix ix_tup (pv 1) pe_int (fun _ _ => rfl))))) (pss_one (ps_if (pt_cmpR op_eq (pv 2) pe_str (nomark _)) (pss_one (ps_expr (pe_bm PySem.F.plainAttrs_list PySem.F.slot_list_extend PySem.F.type_list_extend mt_extend (pe_fld (pv 0) rfl) (pa_cons (pe_callTy call_list_of (by rfl) T.list (by decide +kernel) (pa_cons (pe_ix ix_list (pe_fld (pv 0) rfl) (pv 3) (fun _ _ => rfl)) pa_nil)) pa_nil)))) pss_nil))))))))), ?_⟩
    refine ⟨_, rfl, 2, rfl, slA_use hp fun p2 J s1 h2 => ?_⟩
    rw [cut2] at h2
    refine ⟨p2, _, rfl, SqT.of h2, rfl, _, _, rfl, _, _, rfl, rfl, ?_⟩
    have SatJ := Sat.same s1
    have hpJ := s1 _ _ hp
    have fr : ∀ a, J a = none → A a := fun a e => fr0 a (s1.free e)
    obtain ⟨⟨dx, ho⟩, G⟩ := id SatJ
    obtain ⟨⟨aD, kvs, hD, hdr⟩, hS, ⟨us, hHs, lus⟩, n1, n2, ne⟩ := id G
    have lt := mx_lt ls
    have npS : p ≠ S := ne_of ho hS (by intro z; cases z)
    have npH : p ≠ Hs := ne_of ho hHs (by intro z; cases z)
    have fin : ∀ J', Kp S Hs J J' → GoAt A J' dA S Hs m (stepB s r) → Q .non J' := fun J' kp g => k J' (fun b o e b1 b2 => kp b o (s1 _ _ e) b1 b2) ⟨⟨dx, kp _ _ ho npS npH⟩, g⟩
    cases r with
    | keep kk =>
      refine ⟨_, rfl, rfl, _, rfl, ite2 (fun _ => ?_) fun c => absurd (decide_eq_true rfl) c⟩
      refine ⟨_, rfl, p, C, dx, _, _, rfl, ho, T.cl_Standing, T.nK, fsS_keepers _ _ _, .inl ⟨rfl, _, SqL.of hS⟩, _, rfl, S, _, _, rfl, rfl, hS, by rw [List.length_map]; exact lt, ?_⟩
      refine fin _ (fun b o e b1 _ => by rw [upd_ne b1]; exact e) ⟨HdAt.mono (fun _ _ x _ => x) (KpA.upd n1) ⟨aD, kvs, hD, hdr⟩, by rw [upd_same]; simp [stepB, BR.ab], ⟨us, by rw [upd_ne ne.symm]; exact hHs, lus.mono (fun _ _ x _ => x) (KpA.upd n1).l⟩, n1, n2, ne⟩
    | ended kk =>
      refine ⟨_, rfl, rfl, _, rfl, ite2 (fun c => absurd (V.str.inj (of_decide_eq_true c)) (by show ¬ ("ended" : Str) = _; decide +kernel)) fun _ => ?_⟩
      refine ⟨_, rfl, rfl, _, rfl, ite2 (fun _ => ?_) fun c => absurd (decide_eq_true rfl) c⟩
      rcases List.eq_nil_or_concat s.st with h0 | ⟨ini, x, h0⟩
      · have e1 : letsB m s (.ended kk) = false := by show decide (s.st.getLast? = some kk) = false; rw [h0]; rfl
        rw [e1] at hlets; cases hlets
      · rw [List.concat_eq_append] at h0
        rw [h0, List.map_append, List.map_cons, List.map_nil] at hS
        refine ⟨_, rfl, p, C, dx, _, _, rfl, ho, T.cl_Standing, T.nK, fsS_keepers _ _ _, .inl ⟨rfl, _, SqL.of hS⟩, S, _, .str x, rfl, rfl, hS, by simp, ?_⟩
        rw [List.dropLast_concat]
        exact fin _ (fun b o e b1 _ => by rw [upd_ne b1]; exact e) ⟨HdAt.mono (fun _ _ x _ => x) (KpA.upd n1) ⟨aD, kvs, hD, hdr⟩, by rw [upd_same]; simp [stepB, h0], ⟨us, by rw [upd_ne ne.symm]; exact hHs, lus.mono (fun _ _ x _ => x) (KpA.upd n1).l⟩, n1, n2, ne⟩
    | ask q n =>
      refine ⟨_, rfl, rfl, _, rfl, ite2 (fun c => absurd (V.str.inj (of_decide_eq_true c)) (by show ¬ ("ask" : Str) = _; decide +kernel)) fun _ => ?_⟩
      refine ⟨_, rfl, rfl, _, rfl, ite2 (fun c => absurd (V.str.inj (of_decide_eq_true c)) (by show ¬ ("ask" : Str) = _; decide +kernel)) fun _ => ?_⟩
      refine ⟨_, rfl, rfl, _, rfl, ite2 (fun _ => ?_) fun c => absurd (decide_eq_true rfl) c⟩
      have hn : 0 ≤ n ∧ n < (s.st.length : Int) := by
        have e0 : letsB m s (.ask q n) = (decide (0 ≤ n ∧ n < (s.st.length : Int)) && (hrs m q (s.st[n.toNat]?.getD Str.empty) && !(s.st.drop (n.toNat + 1)).any (hrs m q))) := rfl
        rw [e0, Bool.and_eq_true] at hlets
        exact of_decide_eq_true hlets.1
      obtain ⟨i, rfl⟩ : ∃ i : Nat, n = (i : Int) := ⟨n.toNat, by omega⟩
      refine ⟨_, rfl, p, C, dx, _, _, rfl, ho, T.cl_Standing, T.nE, fsS_held _ _ _, .inl ⟨rfl, _, SqL.of hHs⟩, _, rfl, p, C, dx, _, _, rfl, ho, T.cl_Standing, T.nK, fsS_keepers _ _ _, _, rfl, pr, _, 2, _, rfl, rfl, SqT.of hpJ, at_natc _ 2 rfl, (i : Int), rfl, S, _, rfl, SqL.of hS, fun q2 hq2 => ?_⟩
      rw [cut_fromC, ← List.map_drop]
      have nHq : Hs ≠ q2 := ne_of_none hHs hq2
      have nSq : S ≠ q2 := ne_of_none hS hq2
      refine ⟨Hs, us, _, rfl, rfl, (upd_ne nHq).trans hHs, by rw [lus.len]; exact Nat.lt_of_le_of_lt lh (by decide), ?_⟩
      have sq := Same.new (o := .lst ((s.st.drop i).map V.str)) hq2
      have aq := upd_same (H := J) (a := q2) (o := .lst ((s.st.drop i).map V.str))
      generalize upd J q2 (.lst ((s.st.drop i).map V.str)) = G1 at sq aq ⊢
      have np2 : pr ≠ Hs := ne_of hpJ hHs (by intro z; cases z)
      refine ⟨_, rfl, p, C, dx, _, _, rfl, (upd_ne npH).trans (sq _ _ ho), T.cl_Standing, T.nK, fsS_keepers _ _ _, _, rfl, pr, _, 2, _, rfl, rfl, SqT.of ((upd_ne np2).trans (sq _ _ hpJ)), at_natc _ 2 rfl, S, _, i, rfl, rfl, (upd_ne ne).trans (sq _ _ hS), by rw [List.length_map]; omega, ?_⟩
      have kA : KpA A J (upd (upd G1 Hs (.lst (us ++ [V.ref q2]))) S (.lst ((s.st.map V.str).take i))) := ((KpA.same sq).upd' n2).upd' n1
      refine fin _ (fun b o e b1 b2 => by rw [upd_ne b1, upd_ne b2]; exact sq _ _ e) ⟨HdAt.mono (fun _ _ x _ => x) kA ⟨aD, kvs, hD, hdr⟩, ?_, ⟨_, (upd_ne ne.symm).trans upd_same, ?_⟩, n1, n2, ne⟩
      · rw [upd_same, ← List.map_take]; rfl
      · exact LsA.snoc (fr _ hq2) ((upd_ne nSq.symm).trans ((upd_ne nHq.symm).trans aq)) (lus.mono (fun _ _ x _ => x) kA.l)
    | go j =>
      refine ⟨_, rfl, rfl, _, rfl, ite2 (fun c => absurd (V.str.inj (of_decide_eq_true c)) (by show ¬ ("go" : Str) = _; decide +kernel)) fun _ => ?_⟩
      refine ⟨_, rfl, rfl, _, rfl, ite2 (fun c => absurd (V.str.inj (of_decide_eq_true c)) (by show ¬ ("go" : Str) = _; decide +kernel)) fun _ => ?_⟩
      refine ⟨_, rfl, rfl, _, rfl, ite2 (fun c => absurd (V.str.inj (of_decide_eq_true c)) (by show ¬ ("go" : Str) = _; decide +kernel)) fun _ => ?_⟩
      refine ⟨_, rfl, rfl, _, rfl, ite2 (fun _ => ?_) fun c => absurd (decide_eq_true rfl) c⟩
      have hj : 0 ≤ j ∧ j < (s.hs.length : Int) := of_decide_eq_true hlets
      obtain ⟨i, rfl⟩ : ∃ i : Nat, j = (i : Int) := ⟨j.toNat, by omega⟩
      have hi : i < s.hs.length := by omega
      have eg : s.hs[i]? = some s.hs[i] := List.getElem?_eq_getElem hi
      generalize s.hs[i] = g at eg
      obtain ⟨b, eb, ab, hb⟩ := lus.get eg
      have est : stepB s (.go (i : Int)) = ⟨s.st ++ g, s.hs⟩ := by show BS.mk (s.st ++ s.hs[(i : Int).toNat]?.getD []) s.hs = _; rw [Int.toNat_natCast, eg]; rfl
      rw [est] at lst fin
      refine ⟨_, rfl, p, C, dx, _, _, rfl, ho, T.cl_Standing, T.nK, fsS_keepers _ _ _, .inl ⟨rfl, _, SqL.of hS⟩, _, rfl, p, C, dx, _, _, rfl, ho, T.cl_Standing, T.nE, fsS_held _ _ _, _, rfl, Hs, _, (i : Int), _, rfl, rfl, SqL.of hHs, at_natc _ i eb, b, _, rfl, .inl (SqL.of hb), fun q2 hq2 => ?_⟩
      have nSq : S ≠ q2 := ne_of_none hS hq2
      refine ⟨S, q2, _, _, rfl, rfl, (upd_ne nSq).trans hS, upd_same, ?_, ?_⟩
      · rw [List.length_map, List.length_map]; rw [List.length_append] at lst; exact Nat.le_of_lt (mx_lt lst)
      have sq := Same.new (o := .lst (g.map V.str)) hq2
      generalize upd J q2 (.lst (g.map V.str)) = G1 at sq ⊢
      have kA : KpA A J (upd G1 S (.lst (s.st.map V.str ++ g.map V.str))) := (KpA.same sq).upd' n1
      exact fin _ (fun b o e b1 _ => by rw [upd_ne b1]; exact sq _ _ e) ⟨HdAt.mono (fun _ _ x _ => x) kA ⟨aD, kvs, hD, hdr⟩, by rw [upd_same, List.map_append], ⟨us, by rw [upd_ne ne.symm]; exact sq _ _ hHs, lus.mono (fun _ _ x _ => x) kA.l⟩, n1, n2, ne⟩
    | tell x =>
      refine ⟨_, rfl, rfl, _, rfl, ite2 (fun c => absurd (V.str.inj (of_decide_eq_true c)) (by show ¬ ("tell" : Str) = _; decide +kernel)) fun _ => ?_⟩
      refine ⟨_, rfl, rfl, _, rfl, ite2 (fun c => absurd (V.str.inj (of_decide_eq_true c)) (by show ¬ ("tell" : Str) = _; decide +kernel)) fun _ => ?_⟩
      refine ⟨_, rfl, rfl, _, rfl, ite2 (fun c => absurd (V.str.inj (of_decide_eq_true c)) (by show ¬ ("tell" : Str) = _; decide +kernel)) fun _ => ?_⟩
      refine ⟨_, rfl, rfl, _, rfl, ite2 (fun c => absurd (V.str.inj (of_decide_eq_true c)) (by show ¬ ("tell" : Str) = _; decide +kernel)) fun _ => ?_⟩
      exact fin _ (fun b o e _ _ => e) G
end
end Ak
namespace Ak
open PySem L2
local macro_rules | `(tactic| walk_at "no attr") => `(tactic| exact rwF_no _ _ _ (by decide +kernel) (by decide +kernel) (by decide +kernel))
/-! ### a book looked at -/
abbrev st_nb_init : Stmt := inClass (top 4) 0
theorem sc_nb_init : FnScope ["self", "at"] ["self", "at"] (defScope st_nb_init) := ⟨rfl, rfl, rfl, by decide +kernel, rfl, by decide +kernel, by decide +kernel⟩
abbrev st_check_book : Stmt := top 12
theorem sc_check_book : FnScope ["program", "book", "standing", "at", "row"] ["program", "book"] (defScope st_check_book) := ⟨rfl, rfl, rfl, by decide +kernel, rfl, by decide +kernel, by decide +kernel⟩
def spNB (CN : Addr) : Sp := fun vs H Q _ => ∃ (a : Addr) (v : V), vs = [.ref a, v] ∧ H a = some (exo a CN none) ∧ ∀ dx, H dx = none → dx ≠ a → Q .non (upd (upd H dx (exd dx [("at", v)])) a (exo a CN (some dx)))
/-- a NoBook with this number flies; all else stands -/
def Rb (CN : Addr) (num : Int) (H : Hp) (E : XK) : Prop := ∀ d H', H' d = some (.xd [("at", V.int num)]) → Same H H' → E (.ref CN) (some d) H'
theorem mk_at {CN : Addr} {num : Int} {H : Hp} {E : XK} {a : Addr} (z : Rb CN num H E) (ha : H a = none) :
    spNB CN [.ref a, .int num] (upd H a (exo a CN none)) (fun v H2 => v = .non ∧ ∃ (d : Addr) (fs : List (Str × V)), H2 a = some (exo a CN (some d)) ∧ H2 d = some (exd d fs) ∧ H d = none ∧ E (.ref CN) (some d) (upd (del H2 a) d (.xd fs))) (fun _ _ _ => False) := by
  refine ⟨a, _, rfl, upd_same, fun dx hdx ne => ⟨rfl, dx, [("at", V.int num)], upd_same, ?_, ?_, ?_⟩⟩
  · rw [upd_ne ne, upd_same]
  · rw [upd_ne ne] at hdx; exact hdx
  · have hd : H dx = none := by rw [upd_ne ne] at hdx; exact hdx
    refine z dx _ upd_same fun b o e => ?_
    have n1 : b ≠ dx := ne_of_none e hd
    have n2 : b ≠ a := ne_of_none e ha
    rw [upd_ne n1, del_ne n2, upd_ne n2, upd_ne n1, upd_ne n2]
    exact e
structure ErrB (P : Program) (w : World) (K : PySem.W.Frag) (mg : Str → Option Value) (base : Heap) (CN fN : Addr) (dN : FuncData) : Prop where
  oc : OexC K CN
  iC : PySem.W.findIn K (.ref CN) "__init__" = some (some (.ref fN))
  tI : PySem.W.typeIn K (.ref fN) = some (.type "function")
  b : Binds K dN ["self", "at"] []
  m : mg "NoBook" = some (.ref CN)
  F1 : FnOk P w K mg base CX0 1 fN dN ["self", "at"] (spNB CN)
structure BltCk (K : PySem.W.Frag) (mg : Str → Option Value) (C f : Addr) : Prop where
  cl_Standing : Cls K C
  mk_Standing : Mk K C f
  c_Standing : mg "Standing" = some (.ref C)
  enumerate : mg "enumerate" = none
def spCheck (CN : Addr) : Sp := fun vs H Q E => ∃ (v : V) (b : Addr) (us : List V) (h : Hou) (rs : List BR), vs = [v, .ref b] ∧ Rep H h.d v ∧ h.Ok ∧ H b = some (.lst us) ∧ Reps H (rs.map BR.d) us ∧ rs.length ≤ 3000 ∧ RoomW h.m ⟨[], []⟩ rs ∧
  (firstW h.m ⟨[], []⟩ rs 0 = none → ∀ H', Same H H' → Q (.bl true) H') ∧ ∀ i, firstW h.m ⟨[], []⟩ rs 0 = some i → Rb CN (i : Int) H E
section
variable {P : Program} {w : World} {K : PySem.W.Frag} {mg : Str → Option Value} {base : Heap} {C CN fN f1 f2 f3 : Addr} {dN d1 d2 d3 : FuncData}
theorem ok_nb_init {f : Addr} {fd : FuncData} (D : Fun K "__init__" "NoBook.__init__" st_nb_init f fd) (oc : OexC K CN) (no : PySem.W.findIn K (.ref CN) "at" = some none) : FnOk P w K mg base CX0 1 f fd ["self", "at"] (spNB CN) := by
  refine D.ok sc_nb_init (fun vs H Q E h => ?_) (fun cdv A outer s H vs Q E hr h => ?_)
  · obtain ⟨a, v, rfl, _⟩ := h
    rfl
  · obtain ⟨a, v, rfl, ha, k⟩ := h
    refine ⟨_, pss_one (ps_ost (pv 0) (pv 1)), ?_⟩
    exact ⟨_, rfl, _, rfl, a, CN, rfl, oc, no, .inl ⟨ha, fun dx hdx ne => k dx hdx ne⟩⟩
theorem ok_check_book {f : Addr} {fd : FuncData} (D : Fn K mg "check_book" st_check_book ["program", "book"] f fd) (T : BltCk K mg C f1) (N : ErrB P w K mg base CN fN dN)
    (D_sd_init : Md K C "__init__" "Standing.__init__" st_sd_init ["self", "program"] f1 d1) (G_sd_init : FnOk P w K mg base CX0 3 f1 d1 ["self", "program"] (spStInit C))
    (D_sd_lets : Md K C "lets_by" "Standing.lets_by" st_sd_lets ["self", "row"] f2 d2) (G_sd_lets : FnOk P w K mg base CX0 2 f2 d2 ["self", "row"] (spLets C))
    (D_sd_do : Md K C "do_row" "Standing.do_row" st_sd_do ["self", "row"] f3 d3) (G_sd_do : FnOk P w K mg base CX0 1 f3 d3 ["self", "row"] (spDo C)) : FnOk P w K mg base (L2.CX P w) 5 f fd ["program", "book"] (spCheck CN) := by
  refine D.F.okX sc_check_book (fun vs H Q E h => ?_) (fun cdv A0 outer s0 H vs Q E hr h => ?_)
  · obtain ⟨v, b, us, h, rs, rfl, _⟩ := h
    rfl
  · obtain ⟨v, b, us, h, rs, rfl, hv, ok, hb, hus, hl, room, k, z⟩ := h
    refine ⟨_, (pss_cons (ps_set (i := 2) sc_check_book.nd rfl (Or.inl rfl) (pe_make T.mk_Standing G_sd_init (hr.mono (by decide)) (by rfl) T.c_Standing D_sd_init.b .nil pass0 (pa_cons (pv 0) pa_nil)))
      (pss_cons (ps_for (passes_of rfl) rfl (pi_enum (by rfl) T.enumerate (pa_cons (pv 1) pa_nil)) (pg_tup (by rfl) (pgs_cons (pg_name (i := 3) sc_check_book.nd rfl (Or.inl rfl)) (pgs_cons (pg_name (i := 4) sc_check_book.nd rfl (Or.inl rfl)) pgs_nil))) (pss_cons (ps_if (pt_not (pt_val (pe_meth (pv 2) T.cl_Standing D_sd_lets.m G_sd_lets (hr.mono (by decide)) D_sd_lets.b .nil pass0 (pa_cons (pv 4) pa_nil)))) (pss_one (ps_raise rfl (takes_of rfl rfl rfl rfl) (pmk_oex N.oc N.iC N.tI N.F1 (hr.mono (by decide)) N.b .nil pass0 rfl N.m (pa_cons (pv 3) pa_nil)))) pss_nil)
      (pss_one (ps_expr (pe_meth (pv 2) T.cl_Standing D_sd_do.m G_sd_do (hr.mono (by decide)) D_sd_do.b .nil pass0 (pa_cons (pv 4) pa_nil))))))
      (pss_one (ps_ret pe_bl)))), ?_⟩
    refine ⟨_, rfl, fun r dx hr0 hdx hne => ?_⟩
    have hr1 : (upd H dx (.own r)) r = none := by rw [upd_ne hne.symm]; exact hr0
    have s1 : Same H (upd (upd H dx (.own r)) r (.ins C dx [])) := (Same.new hdx).trans (Same.new hr1)
    refine ⟨r, dx, v, h, rfl, upd_same, hv.mono (TupK.same s1), ok, fun dA S Hs H1 SA hS0 hH0 k1 => ⟨rfl, ?_⟩⟩
    have s2 : Same H H1 := fun b o e => k1 b o (s1 b o e) (ne_of_none e hr0)
    have hS2 : H S = none := s1.free hS0
    have hH2 : H Hs = none := s1.free hH0
    refine ⟨_, rfl, b, us, rfl, SqL.of (s2 _ _ hb), for_it walk_enum (fun i σ J => Same H J ∧ ∃ (s : BS) (o3 o4 : Option V), σ = [some v, some (.ref b), some (.ref r), o3, o4] ∧ StAt C (fun a => a ≠ S ∧ a ≠ Hs) J r dA S Hs h.m s ∧ KnS h.m s ∧ s.hs.length ≤ i ∧ RoomW h.m s (rs.drop i) ∧ firstW h.m ⟨[], []⟩ rs 0 = firstW h.m s (rs.drop i) i)
      ⟨s2, _, _, _, rfl, SA, KnS.nil _, Nat.le_refl _, room, rfl⟩ (fun i σ J _ q => SqL.of (q.1 _ _ hb)) (fun i x σ J J1 hi q y => ?_) fun σ J q => ?_⟩
    · obtain ⟨sm, s, o5, o6, rfl, G, kn, lh, rm, fw⟩ := q
      obtain ⟨T0, x1, x2, rfl, hT, rfl, ex1, ex2⟩ := y
      obtain rfl : V.int (i : Int) = x1 := Option.some.inj ex1
      have lu := Reps.len hus
      rw [List.length_map] at lu
      rw [lu] at hi
      have et : rs[i]? = some rs[i] := List.getElem?_eq_getElem hi
      have ed : rs.drop i = rs[i] :: rs.drop (i + 1) := List.drop_eq_getElem_cons hi
      generalize rs[i] = br at et ed
      rw [ed] at rm fw
      have sT := Same.new (o := .tup [V.int (i : Int), x2]) hT
      have s1 := sm.trans sT
      have G1 := G.same sT
      obtain ⟨y, ey, ry⟩ := Reps.get (hus.mono (TupK.same s1)) (j := i) (d := br.d) (by rw [List.getElem?_map, et]; rfl)
      have ex2' : us[i]? = some x2 := ex2
      obtain rfl : y = x2 := by rw [ey] at ex2'; exact Option.some.inj ex2'
      refine ⟨T0, _, rfl, SqT.of upd_same, rfl, _, _, rfl, _, _, rfl, rfl, ?_⟩
      generalize upd J T0 (.tup [V.int (i : Int), y]) = J2 at s1 G1 ry
      obtain ⟨dx2, ho⟩ := G1.1
      refine ⟨_, rfl, r, dx2, _, rfl, ho, fsS_no _ _ _ (by decide +kernel) (by decide +kernel) (by decide +kernel), _, rfl, _, r, dA, S, Hs, y, h.m, s, br, rfl, G1, ry, kn, rm.1, by omega, fun J3 s3 => ⟨_, rfl, ?_⟩⟩
      have s13 := s1.trans s3
      have G3 := G1.same s3
      have ry3 := ry.mono (TupK.same s3)
      cases hl : letsB h.m s br with
      | true =>
        obtain ⟨dx3, ho3⟩ := G3.1
        obtain ⟨us2, hu2, _⟩ := G3.2.hs
        have fr : ∀ a, J3 a = none → a ≠ S ∧ a ≠ Hs := fun a e => ⟨(fun z => by rw [z, G3.2.st] at e; cases e), (fun z => by rw [z, hu2] at e; cases e)⟩
        refine iteF ⟨_, rfl, r, dx3, _, rfl, ho3, fsS_no _ _ _ (by decide +kernel) (by decide +kernel) (by decide +kernel), _, rfl, _, r, dA, S, Hs, y, h.m, s, br, rfl, G3, ry3, hl, rm.1, by omega, (rm.2 hl).st, fr, fun J4 k4 G4 => ?_⟩
        refine ⟨fun c o e => k4 c o (s13 _ _ e) (ne_of_none e hS2) (ne_of_none e hH2), stepB s br, _, _, rfl, G4, kn.step hl, ?_, rm.2 hl, ?_⟩
        · have := stepB_hs s br; omega
        · rw [fw]; show (if letsB h.m s br = true then _ else _) = _; rw [if_pos hl]
      | false =>
        have e1 : firstW h.m ⟨[], []⟩ rs 0 = some i := by
          rw [fw]; show (if letsB h.m s br = true then _ else _) = _; rw [if_neg (by rw [hl]; decide)]
        refine iteT ⟨_, rfl, by show 1 ≤ 1000; decide, fun a' ha' => mk_at (fun d H' e k' => z i e1 d H' e (s13.trans k')) ha'⟩
    · obtain ⟨sm, s, o5, o6, rfl, G, kn, lh, rm, fw⟩ := q
      have lu := Reps.len hus
      rw [List.length_map] at lu
      rw [lu, List.drop_length] at fw
      exact k fw J sm
end
end Ak
namespace Ak
open PySem L2
local macro_rules | `(tactic| walk_at "no attr") => `(tactic| exact rwF_no _ _ _ (by decide +kernel) (by decide +kernel) (by decide +kernel))
/-! ### the row at which a book is refused -/
abbrev st_l_refused_at : Stmt := top 24
theorem sc_l_refused_at : FnScope ["_law_program", "_law_book_here", "_law_told", "_law_handed", "e", "_law_others"] ["_law_program", "_law_book_here"] (defScope st_l_refused_at) := ⟨rfl, rfl, rfl, by decide +kernel, rfl, by decide +kernel, by decide +kernel⟩
def rIsDc (K : PySem.W.Frag) (D a : Addr) (cls : Value) (d : Option Addr) : List V → Hp → VK → Prop := fun xs H Q => cls = .ref D ∧ rIsD K D a d xs H Q
theorem call_isDc {X : Cx} {a D : Addr} {cls : Value} {d : Option Addr} {oe : Obj} {pn : List (Addr × Obj)} (C : ExcC X.K D) (hz : Zc cls d oe) (hf : ∃ vs, oe.data = .fields vs) : CallR (X.suite a ((a, oe) :: pn)) (.builtin "isinstance") (rIsDc X.K D a cls d) := by
  intro pins s σ H xs us Q I r h
  obtain ⟨rfl, h⟩ := h
  exact call_isD C hz hf pins s σ H xs us Q I r h
/-- the classes of errors -/
structure ErrK (K : PySem.W.Frag) (mg : Str → Option Value) (AE CN CP CB CT CR : Addr) : Prop where
  mAE : mg "AskError" = some (.ref AE)
  mCN : mg "NoText" = some (.ref CN)
  mCP : mg "NoProgram" = some (.ref CP)
  mCB : mg "NoBook" = some (.ref CB)
  mCT : mg "NoTurn" = some (.ref CT)
  mCR : mg "NoRow" = some (.ref CR)
  isinstance : mg "isinstance" = none
  ValueError : mg "ValueError" = none
  bool : mg "bool" = none
  int : mg "int" = none
  list : mg "list" = none
  exm : PySem.W.exmOne K (.ref CB) (.ref AE) = some true
  kN : PySem.W.kitOne K (.ref CB) (.ref CN) = some false
  kP : PySem.W.kitOne K (.ref CB) (.ref CP) = some false
  kT : PySem.W.kitOne K (.ref CB) (.ref CT) = some false
  kR : PySem.W.kitOne K (.ref CB) (.ref CR) = some false
  kB : PySem.W.kitOne K (.ref CB) (.ref CB) = some true
  kV : PySem.W.kitOne K (.ref CB) (.type "ValueError") = some true
  kbI : PySem.W.kitOne K (.type "int") (.type "bool") = some false
  E : ExcC K CB
  X : XfC K CB
  nr : PySem.W.findIn K (.ref CB) "at" = some none
def tbRf (K : PySem.W.Frag) (CB : Addr) (W : WX) : TS := tIfS (tAnd (tTest (tOp rIsB (tCallSD (spCheck CB) [] (WE W) (tCons (tVar 0) (tCons (tVar 3) tNil))) (tC (.bl true)))) (tTest (tOp (rEqV K) (tVar 3) (tVar 1)))) (tAsg (tC .non) (gName 2)) tNext
def tIsB (K : PySem.W.Frag) (CB a : Addr) (cls : Value) (d : Option Addr) (c : V) : TE := tCB (rIsDc K CB a cls d) (tCons (tVar 4) (tCons (tC c) tNil))
def tsRf (K : PySem.W.Frag) (CN CP CB CT CR : Addr) (a : Addr) (cls : Value) (d : Option Addr) : TS := tSeq (tAsg (tLst (tCons (tIsB K CB a cls d (.ref CN)) (tCons (tIsB K CB a cls d (.ref CP)) (tCons (tIsB K CB a cls d (.ref CT)) (tCons (tIsB K CB a cls d (.ref CR)) tNil))))) (gName 5))
  (tIfS (tAnd (tB (tIsB K CB a cls d (.ref CB))) (tAnd (tB (tIsB K CB a cls d (.ty "ValueError"))) (tAnd (tTest (tOp (rIn K true) (tC (.bl true)) (tVar 5))) (tNot (tB (tCB (rIsi K) (tCons (tXf a cls d CB "at" (tVar 4)) (tCons (tC (.ty "bool")) tNil)))))))) 
    (tAsg (tOp (rIxL K) (tLst (tCons (tC (.str "changed")) (tCons (tXf a cls d CB "at" (tVar 4)) tNil))) (tCB (fun xs H Q => (∃ i, xs = [V.int i] ∧ Q (.int i) H) ∨ ∃ k, xs = [V.bl k] ∧ Q (.int (if k then 1 else 0)) H) (tCons (tOp (rEqV K) (tVar 3) (tVar 1)) tNil))) (gName 2)) tNext)
def spRef : Sp := fun vs H Q _ => ∃ (v : V) (b : Addr) (us : List V) (h : Hou) (rs : List BR), vs = [v, .ref b] ∧ Rep H h.d v ∧ h.Ok ∧ H b = some (.lst us) ∧ Reps H (rs.map BR.d) us ∧ rs.length ≤ 3000 ∧ RoomW h.m ⟨[], []⟩ rs ∧
  ∀ H', Same H H' → Q (wrongV (firstW h.m ⟨[], []⟩ rs 0)) H'
theorem eqV_same {K : PySem.W.Frag} {H : Hp} {a b : Addr} {us : List V} {Q : VK} (hr : ∀ v ∈ us, ∃ p, v = V.ref p) (h1 : SqL K H a us) (h2 : SqL K H b us) (q : Q (.bl true) H) : rEqV K (.ref a) (.ref b) H Q := by
  refine ⟨1, by decide, .inl ⟨a, b, us, us, rfl, rfl, h1, h2, ?_⟩, q⟩
  have : ∀ us : List V, (∀ v ∈ us, ∃ p, v = V.ref p) → Paired (EqV K H 1) us us := by
    intro us
    induction us with
    | nil => intro _; exact .nil
    | cons v r ih =>
      intro h
      obtain ⟨p, rfl⟩ := h v (by simp)
      exact .cons (.inr (.inl ⟨p, rfl, rfl⟩)) (ih fun x hx => h x (by simp [hx]))
  exact this us hr
theorem rows_refs {H : Hp} : ∀ {rs : List BR} {us : List V}, Reps H (rs.map BR.d) us → ∀ v ∈ us, ∃ p, v = V.ref p
  | [], us, h => by
    have e : us = [] := h
    rw [e]; exact fun _ z => nomatch z
  | r :: rs, _, ⟨v, t, e, h1, h2⟩ => by
    rw [e]
    intro x hx
    rcases List.mem_cons.mp hx with rfl | hx
    · obtain ⟨p, e, _⟩ := BR.at h1
      exact ⟨p, e⟩
    · exact rows_refs h2 x hx
section
variable {P : Program} {w : World} {K : PySem.W.Frag} {mg : Str → Option Value} {base : Heap} {AE CN CP CB CT CR : Addr}
theorem ok_l_refused_at {f f1 : Addr} {fd d1 : FuncData} (D : Fn K mg "_law_refused_at" st_l_refused_at ["_law_program", "_law_book_here"] f fd) (T : ErrK K mg AE CN CP CB CT CR) (D_check_book : Fn K mg "check_book" st_check_book ["program", "book"] f1 d1) (G_check_book : FnOk P w K mg base (L2.CX P w) 5 f1 d1 ["program", "book"] (spCheck CB)) : FnOk P w K mg base CX0 6 f fd ["_law_program", "_law_book_here"] spRef := by
  refine D.F.ok sc_l_refused_at (fun vs H Q E h => ?_) (fun cdv A outer s H vs Q E hr h => ?_)
  · obtain ⟨v, b, us, h, rs, rfl, _⟩ := h
    rfl
  · obtain ⟨v, b, us, h, rs, rfl, hv, ok, hb, hus, hl, room, k⟩ := h
    refine ⟨_, (pss_cons (ps_set (i := 2) sc_l_refused_at.nd rfl (Or.inl rfl) pe_str) (pss_cons (ps_set (i := 3) sc_l_refused_at.nd rfl (Or.inl rfl) (pe_callTy call_list_of (by rfl) T.list (by decide +kernel) (pa_cons (pv 1) pa_nil)))
      (pss_cons (ps_try_as (i := 4) (tb := tbRf K CB) (ts := tsRf K CN CP CB CT CR) (Wout := fun _ _ _ _ => False) rfl rfl sc_l_refused_at.nd rfl rfl ⟨rfl, by decide, Or.inl T.mAE⟩ takes0
      (fun W pn xe tk _ => by exact (pss_one (ps_if (PW.pt (pw_and (pt_cmpR op_isBl (by exact (pe_callSD G_check_book (hr.mono (by decide)) rfl D_check_book.mg D_check_book.kp D_check_book.b .nil (fun σ => passAt tk σ) (by exact (pa_cons (pv 0) (pa_cons (pv 3) pa_nil))))) pe_bl (nomark _)) (pw_and1 (pt_cmpR (op_eqV hr.units) (pv 3) (pv 1) (nomark _))))) (pss_one (ps_set (i := 2) sc_l_refused_at.nd rfl (Or.inl rfl) pe_non)) pss_nil)))
      (fun a oe cls d pn hz hf => by exact (pss_cons (ps_set (i := 5) sc_l_refused_at.nd rfl (Or.inl rfl) (pe_lst (pa_cons (pe_callB (call_isDc T.E hz hf) (by rfl) T.isinstance (by decide +kernel) (pa_cons (pv 4) (pa_cons (pe_glob (v := .ref CN) rfl T.mCN rfl) pa_nil))) (pa_cons (pe_callB (call_isDc T.E hz hf) (by rfl) T.isinstance (by decide +kernel) (pa_cons (pv 4) (pa_cons (pe_glob (v := .ref CP) rfl T.mCP rfl) pa_nil)))
        (pa_cons (pe_callB (call_isDc T.E hz hf) (by rfl) T.isinstance (by decide +kernel) (pa_cons (pv 4) (pa_cons (pe_glob (v := .ref CT) rfl T.mCT rfl) pa_nil))) (pa_cons (pe_callB (call_isDc T.E hz hf) (by rfl) T.isinstance (by decide +kernel) (pa_cons (pv 4) (pa_cons (pe_glob (v := .ref CR) rfl T.mCR rfl) pa_nil))) pa_nil))))))
        (pss_one (ps_if (PW.pt (pw_and (pt_val (pe_callB (call_isDc T.E hz hf) (by rfl) T.isinstance (by decide +kernel) (pa_cons (pv 4) (pa_cons (pe_glob (v := .ref CB) rfl T.mCB rfl) pa_nil)))) (pw_and (pt_val (pe_callB (call_isDc T.E hz hf) (by rfl) T.isinstance (by decide +kernel) (pa_cons (pv 4) (pa_cons (pe_bltn (v := .ty "ValueError") (u := .type "ValueError") (by rfl) T.ValueError (by decide +kernel) rfl) pa_nil))))
          (pw_and (pt_cmpR op_notIn_seq pe_bl (pv 5) (by rfl)) (pw_and1 (pt_not (pt_val (pe_callB call_isi (by rfl) T.isinstance (by decide +kernel) (pa_cons (pe_xf T.X T.nr hz hf (pv 4)) (pa_cons (pe_bltn (v := .ty "bool") (u := .type "bool") (by rfl) T.bool (by decide +kernel) rfl) pa_nil))))))))))
          (pss_one (ps_set (i := 2) sc_l_refused_at.nd rfl (Or.inl rfl) (pe_ix ix_list (pe_lst (pa_cons pe_str (pa_cons (pe_xf T.X T.nr hz hf (pv 4)) pa_nil))) (pe_callTy call_int1 (by rfl) T.int (by decide +kernel) (pa_cons (pe_cmpR (op_eqV hr.units) (pv 3) (pv 1) (nomark _)) pa_nil)) (fun _ _ => rfl)))) pss_nil)))))
      (pss_one (ps_ret (pv 2)))))), ?_⟩
    refine ⟨_, rfl, b, _, rfl, .inl (SqL.of hb), fun L hL => ?_⟩
    have sL := Same.new (o := .lst us) hL
    have aL := upd_same (H := H) (a := L) (o := .lst us)
    generalize upd H L (.lst us) = J at sL aL
    have rf := rows_refs hus
    refine ⟨_, rfl, _, rfl, v, L, us, h, rs, rfl, hv.mono (TupK.same sL), ok, aL, hus.mono (TupK.same sL), hl, room, fun e H' s' => ?_, fun i e dd H' hd s' => ?_⟩
    · refine ⟨_, _, rfl, rfl, _, rfl, iteT ⟨_, rfl, _, rfl, eqV_same rf (SqL.of (s' _ _ aL)) (SqL.of (s' _ _ (sL _ _ hb))) ⟨_, rfl, iteT ⟨_, rfl, ?_⟩⟩⟩⟩
      have := k H' (sL.trans s')
      rw [e] at this
      exact this
    · refine ⟨true, T.exm, fun _ x hx => ?_, fun z => nomatch z⟩
      refine ⟨_, rfl, rfl, _, _, false, dd, _, rfl, fun u r => ClsV.eq (.own CN) r, T.kN, rfl, hd, _, rfl, rfl, _, _, false, dd, _, rfl, fun u r => ClsV.eq (.own CP) r, T.kP, rfl, hd, _, rfl, rfl, _, _, false, dd, _, rfl, fun u r => ClsV.eq (.own CT) r, T.kT, rfl, hd,
        _, rfl, rfl, _, _, false, dd, _, rfl, fun u r => ClsV.eq (.own CR) r, T.kR, rfl, hd, by show 4 ≤ sizeLine; decide, fun M hM => ?_⟩
      have sM := Same.new (o := .lst [V.bl false, V.bl false, V.bl false, V.bl false]) hM
      have hd' := sM _ _ hd
      have aM := upd_same (H := H') (a := M) (o := .lst [V.bl false, V.bl false, V.bl false, V.bl false])
      generalize hG : upd H' M _ = G
      have hG' : upd H' M (.lst [V.bl false, V.bl false, V.bl false, V.bl false]) = G := hG
      rw [hG'] at sM hd' aM
      refine ⟨_, rfl, rfl, _, _, true, dd, _, rfl, fun u r => ClsV.eq (.own CB) r, T.kB, rfl, hd', _, rfl, iteT ⟨_, rfl, rfl, _, _, true, dd, _, rfl, fun u r => ClsV.eq (.ty "ValueError") r, T.kV, rfl, hd', _, rfl, iteT ⟨_, rfl, M, _, rfl, .inl (SqL.of aM), rfl, by decide +kernel, _, rfl, iteT ?_⟩⟩⟩
      refine ⟨_, rfl, rfl, rfl, dd, _, _, rfl, hd', rfl, _, _, _, _, false, rfl, .ty "bool", .base (.int _), T.kbI, _, rfl, iteT ?_⟩
      refine ⟨_, rfl, rfl, rfl, dd, _, _, rfl, hd', rfl, by show 2 ≤ sizeLine; decide, fun N hN => ?_⟩
      have sN := Same.new (o := .lst [V.str "changed", V.int (i : Int)]) hN
      refine ⟨_, rfl, _, rfl, eqV_same rf (SqL.of (sN _ _ (sM _ _ (s' _ _ aL)))) (SqL.of (sN _ _ (sM _ _ (s' _ _ (sL _ _ hb))))) (.inr ⟨true, rfl, N, _, 1, _, rfl, rfl, SqL.of upd_same, rfl, ⟨_, rfl, ?_⟩⟩)⟩
      have := k _ (((sL.trans s').trans sM).trans sN)
      rw [e] at this
      exact this
end
end Ak
namespace Ak
open PySem L2
local macro_rules | `(tactic| walk_at "no attr") => `(tactic| exact rwF_no _ _ _ (by decide +kernel) (by decide +kernel) (by decide +kernel))
/-! ### the box of draws: _law_deal, _law_draw -/
abbrev st_l_deal : Stmt := top 15
theorem sc_l_deal : FnScope ["_law_script", "_law_base", "_law_one", "_law_some", "_law_number"] ["_law_script", "_law_base"] (defScope st_l_deal) := ⟨rfl, rfl, rfl, by decide +kernel, rfl, by decide +kernel, by decide +kernel⟩
abbrev st_l_draw : Stmt := top 16
theorem sc_l_draw : FnScope ["_law_deal_here", "_law_many", "_law_number", "_law_one", "_law_other"] ["_law_deal_here", "_law_many"] (defScope st_l_draw) := ⟨rfl, rfl, rfl, by decide +kernel, rfl, by decide +kernel, by decide +kernel⟩
structure BltD (mg : Str → Option Value) : Prop where
  len : mg "len" = none
  list : mg "list" = none
  reversed : mg "reversed" = none
  max : mg "max" = none
section
variable {P : Program} {w : World} {K : PySem.W.Frag} {mg : Str → Option Value} {base : Heap}
def DrawW (d l : Addr) (n : Int) (H : Hp) (m : Nat) (σ : L2.St) (H1 : Hp) : Prop :=
  σ = start ["_law_deal_here", "_law_many", "_law_number", "_law_one", "_law_other"] [.ref d, .int n] ∧ ∃ (s0 n0 : Int) (left : List Int), m = left.length ∧ 0 ≤ s0 ∧ s0 < 2147483647 ∧ 0 ≤ n0 ∧ (∀ x ∈ left, 0 ≤ x) ∧ H1 d = some (.dK (dealL s0 n0 l)) ∧ H1 l = some (.lst (left.map V.int)) ∧ Kp d l H H1
theorem ok_draw {f : Addr} {fd : FuncData} (D : Fn K mg "_law_draw" st_l_draw ["_law_deal_here", "_law_many"] f fd) (T : BltD mg) : FnOk P w K mg base CX0 1 f fd ["_law_deal_here", "_law_many"] spDraw := by
  refine D.F.ok sc_l_draw (fun vs H Q E h => ?_) (fun cdv A outer s H vs Q E hr h => ?_)
  · obtain ⟨d, l, n, rfl, _⟩ := h
    rfl
  · obtain ⟨d, l, n, rfl, hD, h1, h2, k⟩ := h
    have hu := hu_of hr
    have ndl := hD.ne
    refine ⟨_, (pss_cons (ps_while PassesOwn.never (PW.pt (pw_and (pt_cmpR op_eq (pe_dget hu (pv 0) pe_str (fun _ _ => rfl)) pe_int (nomark _)) (pw_and1 (pt_cmpR op_gt (pe_callB call_len_seq (by rfl) T.len (by decide +kernel) (pa_cons (pe_dget hu (pv 0) pe_str (fun _ _ => rfl)) pa_nil)) pe_int (nomark _))))) (pss_one (ps_dput hu (pv 0) pe_str (pe_bm0 PySem.F.plainAttrs_list PySem.F.slot_list_pop PySem.F.type_list_pop mt_pop (pe_dget hu (pv 0) pe_str (fun _ _ => rfl))) rfl)))
      (pss_cons (ps_set (i := 2) sc_l_draw.nd rfl (Or.inl rfl) (pe_dget hu (pv 0) pe_str (fun _ _ => rfl)))
      (pss_cons (ps_if (pt_cmpR op_gt (pv 2) pe_int (nomark _)) (pss_cons (ps_dput hu (pv 0) pe_str (pe_op op_fdivN (pv 2) (pv 1)) rfl)
      (pss_one (ps_ret (pe_op op_modN (pv 2) (pv 1))))) pss_nil)
      (pss_cons (ps_set (i := 3) sc_l_draw.nd rfl (Or.inl rfl) (pe_op op_modN (pe_op op_add (pe_op op_mul (pe_dget hu (pv 0) pe_str (fun _ _ => rfl)) pe_int) pe_int) pe_int))
      (pss_cons (ps_dput hu (pv 0) pe_str (pe_op op_modN (pe_op op_add (pe_op op_mul (pv 3) pe_int) pe_int) pe_int) rfl)
      (pss_cons (ps_set (i := 4) sc_l_draw.nd rfl (Or.inl rfl) (pe_op op_modN (pe_op op_mul (pe_dget hu (pv 0) pe_str (fun _ _ => rfl)) (pe_dget hu (pv 0) pe_str (fun _ _ => rfl))) pe_int))
      (pss_one (ps_ret (pe_op op_modN (pe_op op_add (pe_op op_mul (pe_op op_modN (pe_op op_mul (pv 3) (pv 3)) pe_int) pe_int) (pv 4)) (pv 1)))))))))), ?_⟩
    obtain ⟨s0, n0, left, a1, a2, a3, a4, e1, e2⟩ := hD
    refine ⟨DrawW d l n H, ⟨left.length, rfl, s0, n0, left, rfl, a1, a2, a3, a4, e1, e2, Kp.refl _ _ _⟩, ?_⟩
    clear e1 e2 a1 a2 a3 a4
    clear s0 n0 left
    rintro m σ H1 ⟨rfl, s0, n0, left, rfl, a1, a2, a3, a4, e1, e2, kp⟩
    have gs := deal_gs e1
    have gn := deal_gn e1
    have gl := deal_gl e1
    have kd : ∀ o, Kp d l H (upd H1 d o) := fun o b u e b1 b2 => by rw [upd_ne b1]; exact kp b u e b1 b2
    -- number == 0 and len(left) > 0
    refine dec_and (p := n0 = 0) (q := 0 < left.length) (dec_of fun Q' h => ?_) (fun _ => dec_of fun Q' h => ?_) _ (fun c => iteT ?_) (fun c => iteF ?_)
    · refine ⟨_, rfl, d, .int n0, rfl, gn, rfl, ?_⟩
      have e : decide (V.int n0 = V.int 0) = decide (n0 = 0) := decide_eq_decide.mpr ⟨fun z => V.int.inj z, fun z => by rw [z]⟩
      rw [e]
      exact h
    · refine ⟨_, rfl, d, .ref l, rfl, gl, l, _, rfl, .inl (SqL.of e2), _, _, rfl, rfl, ?_⟩
      have e : decide ((0 : Int) < ((left.map V.int).length : Int)) = decide (0 < left.length) := by rw [List.length_map]; exact decide_eq_decide.mpr (by omega)
      show Q' (.bl (decide ((0 : Int) < ((left.map V.int).length : Int)))) H1
      rw [e]
      exact h
    · -- number = left.pop()
      obtain ⟨c1, hl⟩ := c
      obtain ⟨ini, x, rfl⟩ : ∃ ini x, left = ini ++ [x] := ⟨left.dropLast, left.getLast (by intro z; rw [z] at hl; exact absurd hl (by decide)), (List.dropLast_concat_getLast _).symm⟩
      have hx : ((ini ++ [x]).map V.int)[((ini ++ [x]).map V.int).length - 1]? = some (.int x) := by simp
      have hdrop : ((ini ++ [x]).map V.int).dropLast = ini.map V.int := by simp
      refine ⟨fun σ' H' => ∃ m', m' < (ini ++ [x]).length ∧ DrawW d l n H m' σ' H', fun _ _ h => h, ?_⟩
      refine ⟨_, rfl, d, .ref l, rfl, gl, .inl ⟨rfl, _, SqL.of e2⟩, l, _, _, rfl, rfl, e2, hx, ?_⟩
      rw [hdrop]
      have e1' : (upd H1 l (.lst (ini.map V.int))) d = some (.dK (dealL s0 n0 l)) := by rw [upd_ne ndl]; exact e1
      refine ⟨_, rfl, d, upd (upd H1 l (.lst (ini.map V.int))) d (.dK (dealL s0 x l)), rfl, deal_pn x e1', ?_⟩
      refine ⟨ini.length, by simp, rfl, s0, x, ini, rfl, a1, a2, a4 x (by simp), fun y hy => a4 y (by simp [hy]), upd_same, by rw [upd_ne ndl.symm, upd_same], fun b o e b1 b2 => by rw [upd_ne b1, upd_ne b2]; exact kp b o e b1 b2⟩
    · -- number = ..; if number > 0
      refine ⟨_, rfl, d, .int n0, rfl, gn, ?_⟩
      refine ⟨_, rfl, _, _, rfl, rfl, _, rfl, ite2 (fun c => ?_) fun c => ?_⟩
      · have c := of_decide_eq_true c
        refine ⟨_, rfl, _, rfl, _, _, rfl, rfl, ⟨by omega, by omega⟩, _, rfl, d, _, rfl, deal_pn _ e1, ?_⟩
        refine ⟨_, rfl, _, rfl, _, _, rfl, rfl, by omega, ?_⟩
        refine k _ _ (Int.fmod_nonneg (by omega) (by omega)) (Int.fmod_lt_of_pos _ (by omega)) ⟨s0, n0.fdiv n, left, a1, a2, ?_, a4, upd_same, by rw [upd_ne ndl.symm]; exact e2⟩ (kd _)
        exact Int.fdiv_nonneg (by omega) (by omega)
      · have nz : ∀ {a : Int}, 0 < a → a ≠ 0 := fun h z => by omega
        refine ⟨_, rfl, d, .int s0, rfl, gs, _, _, rfl, rfl, .inl ⟨by omega, by omega⟩, _, _, rfl, rfl, _, _, rfl, rfl, nz (by decide), ?_⟩
        have o1a := Int.fmod_nonneg_of_pos (s0 * 48271 + 7919) (show (0 : Int) < 2147483647 by decide)
        have o1b := Int.fmod_lt_of_pos (s0 * 48271 + 7919) (show (0 : Int) < 2147483647 by decide)
        have s1a := Int.fmod_nonneg_of_pos ((s0 * 48271 + 7919).fmod 2147483647 * 40692 + 104729) (show (0 : Int) < 2147483399 by decide)
        have s1b := Int.fmod_lt_of_pos ((s0 * 48271 + 7919).fmod 2147483647 * 40692 + 104729) (show (0 : Int) < 2147483399 by decide)
        refine ⟨_, rfl, _, _, rfl, rfl, .inl ⟨by omega, by omega⟩, _, _, rfl, rfl, _, _, rfl, rfl, nz (by decide), ?_⟩
        refine ⟨_, rfl, d, _, rfl, deal_ps _ e1, ?_⟩
        have e1' : (upd H1 d (.dK (dealL (((s0 * 48271 + 7919).fmod 2147483647 * 40692 + 104729).fmod 2147483399) n0 l))) d = some (.dK (dealL (((s0 * 48271 + 7919).fmod 2147483647 * 40692 + 104729).fmod 2147483399) n0 l)) := upd_same
        refine ⟨_, rfl, d, _, rfl, deal_gs e1', _, rfl, d, _, rfl, deal_gs e1', _, _, rfl, rfl, .inl ⟨by omega, by omega⟩, _, _, rfl, rfl, nz (by decide), ?_⟩
        have q1 := Int.fmod_nonneg_of_pos ((s0 * 48271 + 7919).fmod 2147483647 * (s0 * 48271 + 7919).fmod 2147483647) (show (0 : Int) < 2147483629 by decide)
        have q2 := Int.fmod_lt_of_pos ((s0 * 48271 + 7919).fmod 2147483647 * (s0 * 48271 + 7919).fmod 2147483647) (show (0 : Int) < 2147483629 by decide)
        refine ⟨_, rfl, _, rfl, _, _, rfl, rfl, .inl ⟨by omega, by omega⟩, _, _, rfl, rfl, nz (by decide), ?_⟩
        refine ⟨_, _, rfl, rfl, .inl ⟨by omega, by omega⟩, _, rfl, _, _, rfl, rfl, _, rfl, _, _, rfl, rfl, nz (by omega), ?_⟩
        exact k _ _ (Int.fmod_nonneg_of_pos _ (by omega)) (Int.fmod_lt_of_pos _ (by omega)) ⟨_, n0, left, s1a, by omega, a3, a4, upd_same, by rw [upd_ne ndl.symm]; exact e2⟩ (kd _)
end
section
variable {P : Program} {w : World} {K : PySem.W.Frag} {mg : Str → Option Value} {base : Heap}
theorem ok_deal {f : Addr} {fd : FuncData} (D : Fn K mg "_law_deal" st_l_deal ["_law_script", "_law_base"] f fd) (T : BltD mg) : FnOk P w K mg base CX0 1 f fd ["_law_script", "_law_base"] (spDeal K) := by
  refine D.F.ok sc_l_deal (fun vs H Q E h => ?_) (fun cdv A outer s H vs Q E hr h => ?_)
  · obtain ⟨a, ns, b, rfl, _⟩ := h
    rfl
  · obtain ⟨a, ns, b, rfl, hS, hn, b0, b1, k⟩ := h
    have hu := hu_of hr
    have nz : ∀ {a : Int}, 0 < a → a ≠ 0 := fun h z => by omega
    refine ⟨_, (pss_cons (ps_setLc (i := 3) (own := [("_law_one", 2)]) (g := gName 2) (tt := tYes) rfl sc_l_deal.nd rfl rfl (sw_true rfl rfl rfl (by decide +kernel)) (pi_list (pe_slice sl_list (pv 0) (po_some (pv 1)) (po_some pe_int))) (blkOk_by (own := [("_law_one", 2)]) (N := ["_law_script", "_law_base", "_law_one", "_law_some", "_law_number"]) (sc := defScope st_l_deal) (by decide +kernel)) (fun _ _ _ _ _ => (pg_name (i := 2) sc_l_deal.nd rfl (Or.inl rfl))) (fun _ _ _ _ _ => pts_nil) (fun _ _ _ _ _ => (pe_callB (call_max2 rfl) (by rfl) T.max (by decide +kernel) (pa_cons (pv 2) (pa_cons (pe_op op_sub pe_int (pv 2)) pa_nil)))))
      (pss_cons (ps_set (i := 4) sc_l_deal.nd rfl (Or.inl rfl) (pe_op op_add pe_int (pv 1)))
      (pss_cons (ps_for PassesOwn.never rfl (pi_list (pv 3)) (pg_name (i := 2) sc_l_deal.nd rfl (Or.inl rfl)) (pss_one (ps_set (i := 4) sc_l_deal.nd rfl (Or.inl rfl) (pe_op op_modN (pe_op op_add (pe_op op_mul (pv 4) pe_int) (pe_op op_modN (pv 2) pe_int)) pe_int))))
      (pss_one (ps_ret (pe_disp (pps_cons pe_str (pv 4) (pps_cons pe_str pe_int (pps_cons pe_str (Ak.pe_lstRev rfl rfl T.list rfl T.reversed (pe_lc (own := [("_law_one", 2)]) (g := gName 2) (tt := _) (te := (tVar 2)) rfl sc_l_deal.nd (pi_list (pv 3)) (blkOk_by (own := [("_law_one", 2)]) (N := ["_law_script", "_law_base", "_law_one", "_law_some", "_law_number"]) (sc := defScope st_l_deal) (by decide +kernel)) (fun _ _ _ _ _ => (pg_name (i := 2) sc_l_deal.nd rfl (Or.inl rfl))) (fun _ _ _ _ _ => (pts_one (pt_cmpR op_ge (pv 2) (pe_op op_pow pe_int pe_int) (nomark _)))) (fun _ _ _ _ _ => (pv 2)))) pps_nil))) (by rfl) (by rfl) (fun z => by cases z) (by decide))))))), ?_⟩
    obtain ⟨cs, hcs, hcl⟩ : ∃ cs : List Int, cutV (ns.map V.int) (some b) (some 63) = cs.map V.int ∧ cs.length ≤ ns.length := by
      refine ⟨(ns.drop (HT.sIx (ns.map V.int).length 0 (some b))).take (HT.sIx (ns.map V.int).length (ns.map V.int).length (some 63) - HT.sIx (ns.map V.int).length 0 (some b)), ?_, ?_⟩
      · unfold cutV
        rw [List.map_take, List.map_drop]
      · rw [List.length_take, List.length_drop]; omega
    refine ⟨_, rfl, _, rfl, b, rfl, 63, rfl, a, _, rfl, hS, fun p np => ⟨p, rfl, ⟨_, SqL.of upd_same⟩, fun L hL => ?_⟩⟩
    rw [hcs] at hL ⊢
    have nLp : L ≠ p := by intro z; rw [z, upd_same] at hL; cases hL
    have nL : H L = none := by rw [upd_ne nLp] at hL; exact hL
    have hp1 : (upd H p (.lst (cs.map V.int))) p = some (.lst (cs.map V.int)) := upd_same
    refine lc_list (K := K) (a := p) (xs := cs.map V.int) (fun i H' => Same H H' ∧ H' p = some (.lst (cs.map V.int)) ∧ H' L = some (.lst ((cs.take i).map fun x => V.int (ab x)))) ⟨?_, ?_, ?_⟩ (fun i H' _ q => SqL.of q.2.1) (fun i x H' hx q => ?_) fun H' q => ?_
    · exact (Same.new np).trans (Same.new hL)
    · rw [upd_ne nLp.symm]; exact hp1
    · rw [upd_same]; rfl
    · obtain ⟨z, hz, rfl⟩ : ∃ z, cs[i]? = some z ∧ x = V.int z := by
        rw [List.getElem?_map] at hx
        cases h : cs[i]? with
        | none => rw [h] at hx; cases hx
        | some z => rw [h] at hx; exact ⟨z, rfl, (Option.some.inj hx).symm⟩
      obtain ⟨q1, q2, q3⟩ := q
      have hi : i < cs.length := (List.getElem?_eq_some_iff.mp hz).1
      refine ⟨rfl, lc_yes ?_⟩
      refine ⟨_, rfl, _, rfl, _, _, rfl, rfl, _, _, rfl, _, q3, small1000 (by simp; omega), ?_, ?_, ?_⟩
      · intro c o e
        rw [upd_ne (ne_of_none e nL)]; exact q1 c o e
      · rw [upd_ne nLp.symm]; exact q2
      · rw [upd_same]
        have e : cs.take (i + 1) = cs.take i ++ [z] := by rw [List.take_succ, hz]; rfl
        rw [e, List.map_append]
        rfl
    · rw [List.length_map, List.take_length] at q
      obtain ⟨q1, q2, q3⟩ := q
      -- number = 7919 + base
      refine ⟨_, rfl, _, _, rfl, rfl, ?_⟩
      -- for one in some_here
      refine ⟨_, rfl, L, rfl, ⟨_, SqL.of q3⟩, for_list (xs := cs.map fun x => V.int (ab x)) (fun i σ H1 => H1 = H' ∧ ∃ (v2 : Option V) (num : Int), σ = [some (.ref a), some (.int b), v2, some (.ref L), some (.int num)] ∧ 0 ≤ num ∧ num < 2147483647) ⟨rfl, _, _, rfl, by omega, by omega⟩ (fun i σ H1 _ r => by rw [r.1]; exact SqL.of q3) (fun i x σ H1 hx r => ?_) fun σ H1 r => ?_⟩
      · obtain ⟨rfl, v2, num, rfl, n1, n2⟩ := r
        obtain ⟨z, rfl⟩ : ∃ z, x = V.int z := by
          rw [List.getElem?_map] at hx
          cases h : cs[i]? with
          | none => rw [h] at hx; cases hx
          | some z => rw [h] at hx; exact ⟨_, (Option.some.inj hx).symm⟩
        refine ⟨_, rfl, _, _, rfl, rfl, .inl ⟨by omega, by omega⟩, _, rfl, _, _, rfl, rfl, nz (by decide), _, _, rfl, rfl, _, _, rfl, rfl, nz (by decide), ?_⟩
        exact ⟨rfl, _, _, rfl, Int.fmod_nonneg_of_pos _ (by decide), Int.fmod_lt_of_pos _ (by decide)⟩
      · obtain ⟨rfl, v2, num, rfl, n1, n2⟩ := r
        -- the dict
        intro d hd
        refine ⟨_, rfl, ?_⟩
        have ndL : L ≠ d := ne_of_none q3 hd
        refine ⟨_, rfl, L, rfl, ⟨_, SqL.of (by rw [upd_ne ndL]; exact q3)⟩, fun M hM => ?_⟩
        have nMd : M ≠ d := by intro z; rw [z, upd_same] at hM; cases hM
        have nM : H1 M = none := by rw [upd_ne nMd] at hM; exact hM
        refine lc_list (K := K) (a := L) (xs := cs.map fun x => V.int (ab x)) (fun i H2 => Same H1 H2 ∧ H2 d = some (.dK []) ∧ ∃ sel : List Int, H2 M = some (.lst (sel.map V.int)) ∧ sel.length ≤ i ∧ ∀ x ∈ sel, 0 ≤ x) ⟨?_, ?_, ?_⟩ (fun i H2 _ r => SqL.of (r.1 _ _ q3)) (fun i x H2 hx r => ?_) fun H2 r => ?_
        · exact (Same.new hd).trans (Same.new hM)
        · rw [upd_ne nMd.symm, upd_same]
        · exact ⟨[], by rw [upd_same]; rfl, Nat.le_refl _, fun _ z => nomatch z⟩
        · obtain ⟨z, hz, rfl⟩ : ∃ z, cs[i]? = some z ∧ x = V.int (ab z) := by
            rw [List.getElem?_map] at hx
            cases h : cs[i]? with
            | none => rw [h] at hx; cases hx
            | some z => rw [h] at hx; exact ⟨z, rfl, (Option.some.inj hx).symm⟩
          obtain ⟨r1, r2, sel, r3, r4, r5⟩ := r
          have hi : i < cs.length := (List.getElem?_eq_some_iff.mp hz).1
          refine ⟨rfl, _, rfl, _, _, rfl, rfl, ⟨by decide, by decide, by decide⟩, _, _, rfl, rfl, _, rfl, ite2 (fun c => ?_) fun c => ?_⟩
          · refine ⟨_, rfl, _, r3, small1000 (by simp; omega), ?_, ?_, sel ++ [ab z], ?_, by simp; omega, ?_⟩
            · intro c o e
              rw [upd_ne (ne_of_none e nM)]; exact r1 c o e
            · rw [upd_ne nMd.symm]; exact r2
            · rw [upd_same, List.map_append]; rfl
            · intro y hy
              rcases List.mem_append.mp hy with hy | hy
              · exact r5 y hy
              · rw [List.mem_singleton.mp hy]; exact ab_nonneg z
          · exact ⟨r1, r2, sel, r3, by omega, r5⟩
        · obtain ⟨r1, r2, sel, r3, r4, r5⟩ := r
          refine ⟨M, _, rfl, SqL.of r3, fun q hq => ?_⟩
          have nqd : q ≠ d := by intro z; rw [z, r2] at hq; cases hq
          refine ⟨by rw [upd_ne nqd.symm]; exact r2, dealL num 0 q, rfl, (by show 3 ≤ 15; decide), ?_⟩
          have em : mergeK ([] : List (Key × V)) (dealL num 0 q) = dealL num 0 q := deal_merge num 0 q
          rw [em, ← List.map_reverse]
          refine k d q _ (q1.free hd) ((q1.trans r1).free hq) ⟨num, 0, sel.reverse, n1, n2, by decide, fun x hx => r5 x (List.mem_reverse.mp hx), upd_same, by rw [upd_ne nqd, upd_same]⟩ ?_
          intro c o e
          rw [upd_ne (ne_of_none (q1 _ _ e) hd), upd_ne (ne_of_none (r1 _ _ (q1 _ _ e)) hq)]
          exact r1 _ _ (q1 _ _ e)
end
abbrev st_l_words : Stmt := top 17
theorem sc_l_words : FnScope ["_law_deal_here", "_law_many", "_law_letters", "_law_k", "_law_core", "_law_at", "_law_turn", "_law_found", "_law_own"] ["_law_deal_here", "_law_many"] (defScope st_l_words) := ⟨rfl, rfl, rfl, by decide +kernel, rfl, by decide +kernel, by decide +kernel⟩
/-- a text, none or one time -/
theorem op_mul_str {X : Cx} : OpR X (binaryOp .Mult) (fun x y H Q => ∃ (z : Str) (i : Int), x = .str z ∧ y = .int i ∧ (i = 0 ∨ i = 1) ∧ Q (.str (if i = 1 then z else Str.empty)) H) := by
  intro pins s σ H x y v u Q I rx ry h
  obtain ⟨z, i, rfl, rfl, hi, q⟩ := h
  obtain ⟨t, rfl⟩ := rx
  obtain ⟨t', rfl⟩ := ry
  have e : Txt.mul z i = if i = 1 then z else Str.empty := by rcases hi with rfl | rfl <;> rfl
  refine SB.mul ⟨by rcases hi with rfl | rfl <;> decide, ?_, ?_⟩ fun t' k => by rw [e]; exact ⟨.str (if i = 1 then z else Str.empty), H, I.tok _, ⟨_, rfl⟩, q⟩
  · rcases hi with rfl | rfl
    · exact fun h => absurd (by decide) h
    · exact fun _ h => absurd h (by simp)
  · rcases hi with rfl | rfl
    · exact fun h => absurd (by decide) h
    · exact fun _ h => absurd h (by simp)
/-- only small letters -/
def Low (t : Str) : Prop := ∀ c ∈ t.cps.toList, 97 ≤ c ∧ c ≤ 122
theorem low_on {t : Str} (h : Low t) : onlyOf t lets = true := by
  unfold onlyOf
  rw [List.all_eq_true]
  exact fun c hc => decide_eq_true (mem_lets.mpr (h c hc))
theorem name_of {t : Str} (h : Low t) (l1 : 1 ≤ t.length) (l8 : t.length ≤ 8) (nn : inV (.str t) (NNs.map V.str) = false) : isName t = true := by
  unfold isName
  rw [low_on h, nn, decide_eq_true l1, decide_eq_true l8]
  rfl
theorem nn_7 : ∀ t ∈ NNs, t.length ≤ 7 := by decide +kernel
theorem nn_q : ∀ t ∈ NNs, 113 ∉ t.cps.toList := by decide +kernel
theorem q_no {t : Str} (h : 113 ∈ t.cps.toList) : inV (.str t) (NNs.map V.str) = false := by
  unfold inV
  rw [List.any_eq_false]
  intro v hv
  obtain ⟨u, hu, rfl⟩ := List.mem_map.mp hv
  show ¬ (_ == _) = true
  intro z
  have e : t = u ∨ u = t := by first | exact .inl (eq_of_beq z) | exact .inr (eq_of_beq z)
  rcases e with rfl | rfl <;> exact nn_q _ hu h
theorem app_tl (a b : Str) : (a ++ b).cps.toList = a.cps.toList ++ b.cps.toList := by
  show (a.cps ++ b.cps).toList = _
  exact Array.toList_append
theorem low_app {a b : Str} (h : Low a) (g : Low b) : Low (a ++ b) := fun c hc => by
  rw [app_tl] at hc
  rcases List.mem_append.mp hc with z | z
  · exact h c z
  · exact g c z
theorem low_cut {a : Str} (lo hi : Option Int) (h : Low a) : Low (cutS a lo hi) := fun c hc => h c (by
  unfold cutS at hc
  exact List.mem_of_mem_drop (List.mem_of_mem_take (by simpa using hc)))
theorem low_join : ∀ {ys : List Str}, (∀ y ∈ ys, Low y) → Low (Str.join Str.empty ys)
  | [], _ => fun c hc => by simp [Str.join, Str.empty] at hc
  | [x], h => h x (by simp)
  | x :: y :: r, h => by
    show Low ((x ++ Str.empty) ++ Str.join Str.empty (y :: r))
    exact low_app (low_app (h x (by simp)) (fun c hc => by simp [Str.empty] at hc)) (low_join fun z hz => h z (List.mem_cons_of_mem _ hz))
theorem low_sign {c : Nat} (h : c ∈ lets.cps.toList) : Low (⟨#[c]⟩ : Str) := fun x hx => by
  have e : x = c := by simpa using hx
  rw [e]; exact mem_lets.mp h
theorem lets_len : lets.length = 26 := by decide +kernel
theorem cut_sum {z : Str} {a : Int} (h : 0 ≤ a) : (cutS z none (some a)).length + (cutS z (some a) none).length = z.length := by
  obtain ⟨n, rfl⟩ := Int.eq_ofNat_of_zero_le h
  have e : HT.sIx z.length 0 (some (n : Int)) = min n z.length := HT.sIx_nat _ _ _
  have e2 : HT.sIx z.length z.length (some (n : Int)) = min n z.length := HT.sIx_nat _ _ _
  show (cutS z none (some (n : Int))).cps.size + (cutS z (some (n : Int)) none).cps.size = z.length
  rw [← Array.length_toList, ← Array.length_toList]
  unfold cutS
  rw [e, e2, HT.sIx_none, HT.sIx_none]
  have hl : z.cps.toList.length = z.length := Array.length_toList
  simp only [List.length_take, List.length_drop, hl]
  omega
/-! ### words apart -/
def qwxz : List Nat := [113, 119, 120, 122]
theorem nn_w : ∀ t ∈ NNs, ∀ c ∈ qwxz, c ∉ t.cps.toList := by decide +kernel
theorem w_no {t : Str} {c : Nat} (hc : c ∈ qwxz) (h : c ∈ t.cps.toList) : inV (.str t) (NNs.map V.str) = false := by
  unfold inV
  rw [List.any_eq_false]
  intro v hv
  obtain ⟨u, hu, rfl⟩ := List.mem_map.mp hv
  show ¬ (_ == _) = true
  intro z
  have e : t = u ∨ u = t := by first | exact .inl (eq_of_beq z) | exact .inr (eq_of_beq z)
  rcases e with rfl | rfl <;> exact nn_w _ hu c hc h
/-- the k-th word -/
def wdK (core : Str) (at_ turn : Int) (k : Nat) : Str :=
  cutS core none (some at_) ++ ((⟨#[97 + ((turn + (k : Int)).fmod 26).toNat]⟩ : Str) ++ (⟨#[qwxz[k / 26]?.getD 0]⟩ : Str)) ++ cutS core (some at_) none ++ (if (k : Int).fmod 2 = 1 then ("z" : Str) else Str.empty)
theorem lets_at {j : Int} (h0 : 0 ≤ j) (h1 : j < 26) : atI lets.cps.toList j = some (97 + j.toNat) := by
  obtain ⟨n, rfl⟩ := Int.eq_ofNat_of_zero_le h0
  have hn : n < 26 := by omega
  rw [Int.toNat_natCast]
  refine atI_nat ?_
  rw [lets_tl]
  have : ∀ n < 26, ([97, 98, 99, 100, 101, 102, 103, 104, 105, 106, 107, 108, 109, 110, 111, 112, 113, 114, 115, 116, 117, 118, 119, 120, 121, 122] : List Nat)[n]? = some (97 + n) := by decide
  exact this n hn
theorem qw_at {k : Nat} (h : k < 104) : atI ("qwxz" : Str).cps.toList ((0 + (k : Int)).fdiv 26) = some (qwxz[k / 26]?.getD 0) ∧ qwxz[k / 26]?.getD 0 ∈ qwxz := by
  have e : (0 + (k : Int)).fdiv 26 = ((k / 26 : Nat) : Int) := by
    rw [Int.zero_add, Int.fdiv_eq_ediv_of_nonneg _ (by decide)]; rfl
  rw [e]
  have h4 : k / 26 < 4 := by omega
  generalize k / 26 = j at h4
  have : j = 0 ∨ j = 1 ∨ j = 2 ∨ j = 3 := by omega
  rcases this with rfl | rfl | rfl | rfl <;> decide +kernel
theorem wd_inj {core : Str} {at_ turn : Int} {j k : Nat} (hj : j < 104) (hk : k < 104) (h : wdK core at_ turn j = wdK core at_ turn k) : j = k := by
  have e : (wdK core at_ turn j).cps.toList = (wdK core at_ turn k).cps.toList := by rw [h]
  unfold wdK at e
  simp only [app_tl, List.append_assoc] at e
  have e2 := List.append_cancel_left e
  have e3 : 97 + ((turn + (j : Int)).fmod 26).toNat = 97 + ((turn + (k : Int)).fmod 26).toNat := (List.cons.inj e2).1
  have e4 : qwxz[j / 26]?.getD 0 = qwxz[k / 26]?.getD 0 := (List.cons.inj (List.cons.inj e2).2).1
  have q : j / 26 = k / 26 := by
    have : ∀ a < 4, ∀ b < 4, qwxz[a]?.getD 0 = qwxz[b]?.getD 0 → a = b := by decide
    exact this _ (by omega) _ (by omega) e4
  rw [Int.fmod_eq_emod_of_nonneg _ (by decide), Int.fmod_eq_emod_of_nonneg _ (by decide)] at e3
  omega
def spWds : Sp := fun vs H Q _ => ∃ (d l : Addr) (n : Nat), vs = [.ref d, .int (n : Int)] ∧ n ≤ 96 ∧ DealAt H d l ∧ ∀ (p : Addr) (ws : List Str) (H' : Hp), H p = none → H' p = some (.lst (ws.map V.str)) → ws.length = n → (∀ x ∈ ws, isName x = true) → ws.Nodup → DealAt H' d l → Kp d l H H' → Q (.ref p) H'
section
variable {P : Program} {w : World} {K : PySem.W.Frag} {mg : Str → Option Value} {base : Heap}
theorem ok_wds {f f1 : Addr} {fd d1 : FuncData} (D : Fn K mg "_law_words" st_l_words ["_law_deal_here", "_law_many"] f fd) (T : BltBk mg) (D_l_draw : Fn K mg "_law_draw" st_l_draw ["_law_deal_here", "_law_many"] f1 d1) (G_l_draw : FnOk P w K mg base CX0 1 f1 d1 ["_law_deal_here", "_law_many"] spDraw) : FnOk P w K mg base CX0 2 f fd ["_law_deal_here", "_law_many"] spWds := by
  refine D.F.ok sc_l_words (fun vs H Q E h => ?_) (fun cdv A outer s H vs Q E hr h => ?_)
  · obtain ⟨d, l, n, rfl, _⟩ := h
    rfl
  · obtain ⟨d, l, n, rfl, hn, hD, k⟩ := h
    refine ⟨_, (pss_cons (ps_set (i := 2) sc_l_words.nd rfl (Or.inr rfl) pe_str)
      (pss_cons (ps_set (i := 4) sc_l_words.nd rfl (Or.inl rfl) (pe_join pe_str (pe_lc (own := [("_law_k", 3)]) (g := gName 3) (tt := tYes) rfl sc_l_words.nd (pi_range1 rfl T.range (pa_cons (pe_call G_l_draw (hr.mono (by decide)) rfl D_l_draw.mg D_l_draw.kp D_l_draw.b .nil pass0 (pa_cons (pv 0) (pa_cons pe_int pa_nil))) pa_nil)) (blkOk_by (own := [("_law_k", 3)]) (N := ["_law_deal_here", "_law_many", "_law_letters", "_law_k", "_law_core", "_law_at", "_law_turn", "_law_found", "_law_own"]) (sc := defScope st_l_words) (by decide +kernel)) (fun _ _ _ _ _ => (pg_name (i := 3) sc_l_words.nd rfl (Or.inl rfl))) (fun _ _ _ _ _ => pts_nil) (fun _ _ _ _ _ => (pe_ix ix_str (pv 2) (pe_call G_l_draw (hr.mono (by decide)) rfl D_l_draw.mg D_l_draw.kp D_l_draw.b .nil pass0 (pa_cons (pv 0) (pa_cons pe_int pa_nil))) (fun _ _ => rfl))))))
      (pss_cons (ps_par (i := 5) (j := 6) (by rfl) sc_l_words.nd rfl rfl (by decide) rfl rfl (pa_cons (pe_call G_l_draw (hr.mono (by decide)) rfl D_l_draw.mg D_l_draw.kp D_l_draw.b .nil pass0 (pa_cons (pv 0) (pa_cons (pe_op op_add (pe_callB call_len_str (by rfl) T.len (by decide +kernel) (pa_cons (pv 4) pa_nil)) pe_int) pa_nil))) (pa_cons (pe_call G_l_draw (hr.mono (by decide)) rfl D_l_draw.mg D_l_draw.kp D_l_draw.b .nil pass0 (pa_cons (pv 0) (pa_cons pe_int pa_nil))) pa_nil)) (by rfl))
      (pss_cons (ps_set (i := 7) sc_l_words.nd rfl (Or.inl rfl) (pe_lst pa_nil))
      (pss_cons (ps_for PassesOwn.never rfl (pi_range1 rfl T.range (pa_cons (pv 1) pa_nil)) (pg_name (i := 3) sc_l_words.nd rfl (Or.inl rfl)) (pss_cons (ps_set (i := 8) sc_l_words.nd rfl (Or.inl rfl) (pe_op op_add_str (pe_ix ix_str (pv 2) (pe_op op_modN (pe_op op_add (pv 6) (pv 3)) pe_int) (fun _ _ => rfl)) (pe_ix ix_str pe_str (pe_op op_fdivN (pv 3) pe_int) (fun _ _ => rfl))))
      (pss_one (ps_expr (pe_bm PySem.F.plainAttrs_list PySem.F.slot_list_append PySem.F.type_list_append mt_append (pv 7) (pa_cons (pe_op op_add_str (pe_op op_add_str (pe_op op_add_str (pe_slice sl_str (pv 4) po_none (po_some (pv 5))) (pv 8)) (pe_slice sl_str (pv 4) (po_some (pv 5)) po_none)) (pe_op op_mul_str pe_str (pe_op op_modN (pv 3) pe_int))) pa_nil))))))
      (pss_one (ps_ret (pv 7)))))))), ?_⟩
    refine ⟨⟨_, rfl⟩, _, rfl, d, l, 6, rfl, hD, by decide, by decide, fun m H2 m0 m1 D2 k2 => ?_⟩
    refine ⟨m, rfl, by omega, by omega, fun L hL => ?_⟩
    have nL := D2.new hL
    refine lc_range (lo := 0) (n := m.toNat) (fun i H' => DealAt H' d l ∧ Kp d l H H' ∧ ∃ ts : List Str, H' L = some (.lst (ts.map V.str)) ∧ ts.length = i ∧ ∀ t ∈ ts, t.length = 1 ∧ Low t) ⟨D2.same (Same.new hL), k2.trans (Kp.same (Same.new hL)), [], upd_same, rfl, fun _ z => nomatch z⟩ (fun i H' hi q => ?_) fun H' q => ?_
    · obtain ⟨q1, q2, ts, q3, q4, q5⟩ := q
      refine ⟨rfl, lc_yes ?_⟩
      refine ⟨_, rfl, _, rfl, d, l, 26, rfl, q1, by decide, by decide, fun r H3 r0 r1 D3 k3 => ?_⟩
      obtain ⟨cc, hcc, hin⟩ := atI_in (xs := lets.cps.toList) r0 (by have := lets_len; rw [Array.length_toList]; show r < ((lets.length : Nat) : Int); omega)
      have h3 := k3 _ _ q3 nL.1 nL.2
      refine ⟨lets, _, cc, rfl, rfl, by rw [lets_len]; decide, hcc, _, h3, small1000 (by simp; omega), D3.upd nL, ?_, ts ++ [⟨#[cc]⟩], by rw [upd_same, List.map_append]; rfl, by simp [q4], ?_⟩
      · exact Kp.mut k2 (q2.trans k3) hL
      · intro t ht
        rcases List.mem_append.mp ht with ht | ht
        · exact q5 t ht
        · rw [List.mem_singleton.mp ht]; exact ⟨rfl, low_sign hin⟩
    · obtain ⟨q1, q2, ts, q3, q4, q5⟩ := q
      have es : (ts.map (·.length)).sum = ts.length := sum_ones fun y hy => (q5 y hy).1
      have jl : (Str.join Str.empty ts).length = ts.length := (join_len ts).trans es
      refine ⟨Str.empty, L, ts, rfl, rfl, .inl (SqL.of q3), by rw [es]; show ts.length + ts.length * 0 ≤ _; omega, ?_⟩
      rw [TL.join_eq]
      have cl : (Str.join Str.empty ts).length ≤ 5 := by rw [jl, q4]; omega
      have clow : Low (Str.join Str.empty ts) := low_join fun y hy => (q5 y hy).2
      generalize Str.join Str.empty ts = core at cl clow ⊢
      -- at, turn
      refine ⟨_, rfl, _, rfl, core, rfl, sz1000 (by omega), _, _, rfl, rfl, d, l, _, rfl, q1, by omega, by omega, fun at_ H4 a0 a1 D4 k4 => ?_⟩
      refine ⟨_, rfl, d, l, 26, rfl, D4, by decide, by decide, fun turn H5 u0 u1 D5 k5 => ⟨_, _, rfl, ?_⟩⟩
      refine ⟨Nat.zero_le _, fun F hF => ?_⟩
      have nF := D5.new hF
      have kp5 : Kp d l H H5 := q2.trans (k4.trans k5)
      have hF0 : H F = none := by
        cases e : H F with
        | none => rfl
        | some o =>
          have := kp5 F o e nF.1 nF.2
          rw [hF] at this; cases this
      refine ⟨_, rfl, (n : Int), rfl, by omega, by omega, for_range (lo := 0) (n := ((n : Int)).toNat) (fun i σ H' => DealAt H' d l ∧ Kp d l H H' ∧ ∃ (v3 v8 : Option V) (ws : List Str), σ = [some (.ref d), some (.int (n : Int)), some (.str lets), v3, some (.str core), some (.int at_), some (.int turn), some (.ref F), v8] ∧ H' F = some (.lst (ws.map V.str)) ∧ ws = (List.range i).map (wdK core at_ turn) ∧ ∀ x ∈ ws, isName x = true)
        ⟨D5.same (Same.new hF), kp5.trans (Kp.same (Same.new hF)), _, _, [], rfl, upd_same, rfl, fun _ z => nomatch z⟩ (fun i σ H' hi q => ?_) fun σ H' q => ?_⟩
      · obtain ⟨q1, q2, v3, v8, ws, rfl, q3, q4, q5⟩ := q
        have hi4 : i < 104 := by omega
        have f0 : 0 ≤ (turn + (0 + (i : Int))).fmod 26 := Int.fmod_nonneg (by omega) (by decide)
        have f1 : (turn + (0 + (i : Int))).fmod 26 < 26 := Int.fmod_lt_of_pos _ (by decide)
        have hcc := lets_at f0 f1
        obtain ⟨hq, hqm⟩ := qw_at hi4
        have hin : 97 + ((turn + (0 + (i : Int))).fmod 26).toNat ∈ lets.cps.toList := mem_lets.mpr (by omega)
        have ew : cutS core none (some at_) ++ ((⟨#[97 + ((turn + (0 + (i : Int))).fmod 26).toNat]⟩ : Str) ++ (⟨#[qwxz[i / 26]?.getD 0]⟩ : Str)) ++ cutS core (some at_) none ++ (if (0 + (i : Int)).fmod 2 = 1 then ("z" : Str) else Str.empty) = wdK core at_ turn i := by
          unfold wdK; rw [Int.zero_add]
        generalize 97 + ((turn + (0 + (i : Int))).fmod 26).toNat = cc at hcc hin ew
        generalize qwxz[i / 26]?.getD 0 = qc at hq hqm ew
        have lq : Low (⟨#[qc]⟩ : Str) := fun x hx => by
          have e : x = qc := by simpa using hx
          have : ∀ c ∈ qwxz, 97 ≤ c ∧ c ≤ 122 := by decide
          rw [e]; exact this _ hqm
        have lz : Low (if (0 + (i : Int)).fmod 2 = 1 then ("z" : Str) else Str.empty) ∧ (if (0 + (i : Int)).fmod 2 = 1 then ("z" : Str) else Str.empty).length ≤ 1 := by
          split
          · exact ⟨fun x hx => by
              have hz : ("z" : Str).cps.toList = [122] := by decide +kernel
              rw [hz] at hx
              have : x = 122 := by simpa using hx
              omega, by decide +kernel⟩
          · exact ⟨fun x hx => by simp [Str.empty] at hx, by decide⟩
        have cut1 := cutS_le core none (some at_)
        have cut2 := cutS_le core (some at_) none
        have cut3 := cut_sum (z := core) a0
        have clow1 := low_cut none (some at_) clow
        have clow2 := low_cut (some at_) none clow
        have lcc := low_sign hin
        have hm : (0 + (i : Int)).fmod 2 = 0 ∨ (0 + (i : Int)).fmod 2 = 1 := by
          have h1 := Int.fmod_nonneg (a := 0 + (i : Int)) (b := 2) (by omega) (by decide)
          have h2 := Int.fmod_lt_of_pos (0 + (i : Int)) (b := 2) (by decide)
          omega
        refine ⟨_, rfl, _, rfl, _, rfl, _, _, rfl, rfl, _, _, rfl, rfl, (by show (26 : Int) ≠ 0; decide), lets, _, cc, rfl, rfl, by rw [lets_len]; decide, hcc, ?_⟩
        refine ⟨_, rfl, _, _, rfl, rfl, ⟨by decide, by decide⟩, "qwxz", _, qc, rfl, rfl, by decide +kernel, hq, _, _, rfl, rfl, by show 1 + 1 ≤ sizeLine; decide, ?_⟩
        refine ⟨_, rfl, .inl ⟨rfl, _, SqL.of q3⟩, ?_⟩
        refine ⟨_, rfl, _, rfl, at_, rfl, core, rfl, sz1000 (by omega), ?_⟩
        refine ⟨_, rfl, _, _, rfl, rfl, sz1000 (by show _ + 2 ≤ 1000; omega), ?_⟩
        refine ⟨_, rfl, _, rfl, at_, rfl, core, rfl, sz1000 (by omega), _, _, rfl, rfl, sz1000 (by rw [add_len]; show _ + 2 + _ ≤ 1000; omega), ?_⟩
        refine ⟨_, rfl, _, _, rfl, rfl, (by show (2 : Int) ≠ 0; decide), _, _, rfl, rfl, hm, _, _, rfl, rfl, ?_, ?_⟩
        · have := lz.2
          rw [add_len, add_len]
          exact sz1000 (by show _ + 2 + _ + _ ≤ 1000; omega)
        · have nm : isName (wdK core at_ turn i) = true := by
            rw [← ew]
            have z2 := lz.2
            have o2 : (⟨#[cc]⟩ ++ ⟨#[qc]⟩ : Str).length = 2 := rfl
            refine name_of (low_app (low_app (low_app clow1 (low_app lcc lq)) clow2) lz.1) ?_ ?_ (w_no hqm ?_)
            · rw [add_len, add_len, add_len, o2]; omega
            · rw [add_len, add_len, add_len, o2]; omega
            · rw [app_tl, app_tl, app_tl]
              exact List.mem_append_left _ (List.mem_append_left _ (List.mem_append_right _ (by show qc ∈ [cc, qc]; simp)))
          refine ⟨F, _, _, rfl, rfl, q3, small1000 (by rw [List.length_map, q4, List.length_map, List.length_range]; omega), q1.upd nF, ?_, _, _, ws ++ [wdK core at_ turn i], rfl, ?_, ?_, fun x hx => ?_⟩
          · exact Kp.mut kp5 q2 hF
          · rw [upd_same, List.map_append, ← ew]; rfl
          · rw [q4, List.range_succ, List.map_append]; rfl
          · rcases List.mem_append.mp hx with hx | hx
            · exact q5 x hx
            · rw [List.mem_singleton.mp hx]; exact nm
      · obtain ⟨q1, q2, v3, v8, ws, rfl, q3, q4, q5⟩ := q
        rw [Int.toNat_natCast] at q4
        refine ⟨_, rfl, k F ws _ hF0 q3 (by rw [q4, List.length_map, List.length_range]) q5 ?_ q1 q2⟩
        rw [q4, List.nodup_iff_pairwise_ne, List.pairwise_map]
        refine List.Pairwise.imp_of_mem ?_ (List.nodup_iff_pairwise_ne.mp List.nodup_range)
        intro a b ha hb hab e
        exact hab (wd_inj (by have := List.mem_range.mp ha; omega) (by have := List.mem_range.mp hb; omega) e)
end
end Ak
namespace Ak
open PySem L2
local macro_rules | `(tactic| walk_at "no attr") => `(tactic| exact rwF_no _ _ _ (by decide +kernel) (by decide +kernel) (by decide +kernel))
/-! ### a house: a program by its heads -/
abbrev st_l_house : Stmt := top 18
theorem sc_l_house : FnScope ["_law_deal_here", "_law_words_here", "_law_num", "_law_k", "_law_asks", "_law_keepers", "_law_heard_here", "_law_hears", "_law_ask", "_law_q"] ["_law_deal_here"] (defScope st_l_house) := ⟨rfl, rfl, rfl, by decide +kernel, rfl, by decide +kernel, by decide +kernel⟩
def numD : D := .t [.s "num"]
def askR (q : Str) : Str × List D := (q, [numD, numD])
def hearR (x h n q : Str) : Str × List D := (q, [.s x, .s h, .s n, .t [.s "give", .s n]])
def kprR (x n h k : Str) (qs : List Str) : KpR := ⟨k, numD, numD, numD, .t [.s x, .s n, .t [.s "give", .s x]], qs.map (hearR x n h)⟩
def funR (f : Str) : Str × List D := (f, [.t [], numD, .t [.s "give", .i 1]])
/-- a program of these forms, its names apart -/
structure GoodH (h : Hou) : Prop where
  ok : h.Ok
  a1 : 1 ≤ h.as.length
  a2 : h.as.length ≤ 6
  k1 : 1 ≤ h.ks.length
  k2 : h.ks.length ≤ 4
  as : ∃ qs : List Str, h.as = qs.map askR
  ks : ∃ (x n c : Str) (kq : List (Str × List Str)), h.ks = kq.map fun p => kprR x n c p.1 p.2
  fs : ∃ f : Str, h.fs = [funR f]
  sub : ∀ k ∈ h.ks, ∀ x ∈ k.hs, x.1 ∈ h.as.map (·.1)
  nd : (h.as.map (·.1) ++ (h.ks.map (·.n) ++ h.fs.map (·.1))).Nodup
  h6 : ∀ k ∈ h.ks, k.hs.length ≤ 6
def spHouse : Sp := fun vs H Q _ => ∃ d l : Addr, vs = [.ref d] ∧ DealAt H d l ∧ ∀ (v : V) (h : Hou) (H' : Hp), Rep H' h.d v → GoodH h → DealAt H' d l → Kp d l H H' → Q v H'
theorem wAt {ws : List Str} {i : Nat} {x : Str} (e : ws[i]? = some x) : atI (ws.map V.str) (i : Int) = some (.str x) := at_natc _ i (by rw [List.getElem?_map, e]; rfl)
theorem kp_tup {d l : Addr} {H H' : Hp} (h : DealAt H d l) (k : Kp d l H H') : TupK H H' := TupK.kp h k
theorem nodup_of_ix {ws : List Str} (hw : ws.Nodup) {ns : List Nat} (hn : ns.Nodup) (hl : ∀ n ∈ ns, n < ws.length) : (ns.map fun n => ws[n]?.getD Str.empty).Nodup := by
  rw [List.nodup_iff_pairwise_ne, List.pairwise_map]
  refine List.Pairwise.imp_of_mem ?_ (List.nodup_iff_pairwise_ne.mp hn)
  intro a b ha hb hab e
  have la := hl a ha
  have lb := hl b hb
  rw [List.getElem?_eq_getElem la, List.getElem?_eq_getElem lb, Option.getD_some, Option.getD_some] at e
  exact hab ((List.getElem_inj hw).mp e)
section
variable {P : Program} {w : World} {K : PySem.W.Frag} {mg : Str → Option Value} {base : Heap} {f1 f2 : Addr} {d1 d2 : FuncData}
theorem ok_l_house {f : Addr} {fd : FuncData} (D : Fn K mg "_law_house" st_l_house ["_law_deal_here"] f fd) (T : BltBk mg) (D_l_words : Fn K mg "_law_words" st_l_words ["_law_deal_here", "_law_many"] f1 d1) (G_l_words : FnOk P w K mg base CX0 2 f1 d1 ["_law_deal_here", "_law_many"] spWds)
    (D_l_draw : Fn K mg "_law_draw" st_l_draw ["_law_deal_here", "_law_many"] f2 d2) (G_l_draw : FnOk P w K mg base CX0 1 f2 d2 ["_law_deal_here", "_law_many"] spDraw) : FnOk P w K mg base CX0 3 f fd ["_law_deal_here"] spHouse := by
  refine D.F.ok sc_l_house (fun vs H Q E h => ?_) (fun cdv A outer s H vs Q E hr h => ?_)
  · obtain ⟨d, l, rfl, _⟩ := h
    rfl
  · obtain ⟨d, l, rfl, hD, k⟩ := h
    refine ⟨_, (pss_cons (ps_set (i := 1) sc_l_house.nd rfl (Or.inr rfl) (pe_call G_l_words (hr.mono (by decide)) rfl D_l_words.mg D_l_words.kp D_l_words.b .nil pass0 (pa_cons (pv 0) (pa_cons pe_int pa_nil))))
      (pss_cons (ps_set (i := 2) sc_l_house.nd rfl (Or.inr rfl) (pe_tup (pa_cons pe_str pa_nil)))
      (pss_cons (ps_setLc (i := 4) (own := [("_law_k", 3)]) (g := gName 3) (tt := tYes) (te := (tTup (tCons (tOp (rIxL K) (tVar 1) (tVar 3)) (tCons (tVar 2) (tCons (tVar 2) tNil))))) rfl sc_l_house.nd rfl rfl (sw_true rfl rfl rfl (by decide +kernel)) (pi_range1 rfl T.range (pa_cons (pe_op op_add pe_int (pe_call G_l_draw (hr.mono (by decide)) rfl D_l_draw.mg D_l_draw.kp D_l_draw.b .nil pass0 (pa_cons (pv 0) (pa_cons pe_int pa_nil)))) pa_nil)) (blkOk_by (own := [("_law_k", 3)]) (N := ["_law_deal_here", "_law_words_here", "_law_num", "_law_k", "_law_asks", "_law_keepers", "_law_heard_here", "_law_hears", "_law_ask", "_law_q"]) (sc := defScope st_l_house) (by decide +kernel)) (fun _ _ _ _ _ => (pg_name (i := 3) sc_l_house.nd rfl (Or.inl rfl))) (fun _ _ _ _ _ => pts_nil) (fun _ _ _ _ _ => (pe_tup (pa_cons (pe_ix ix_list (pv 1) (pv 3) (fun _ _ => rfl)) (pa_cons (pv 2) (pa_cons (pv 2) pa_nil))))))
      (pss_cons (ps_set (i := 5) sc_l_house.nd rfl (Or.inl rfl) (pe_lst pa_nil))
      (pss_cons (ps_for PassesOwn.never rfl (pi_range1 rfl T.range (pa_cons (pe_op op_add pe_int (pe_call G_l_draw (hr.mono (by decide)) rfl D_l_draw.mg D_l_draw.kp D_l_draw.b .nil pass0 (pa_cons (pv 0) (pa_cons pe_int pa_nil)))) pa_nil)) (pg_name (i := 3) sc_l_house.nd rfl (Or.inl rfl)) (pss_cons (ps_setLc (i := 6) (own := [("_law_ask", 8)]) (g := gName 8) (tt := tTest (tOp rEq (tCall spDraw [] E0 (tCons (tVar 0) (tCons (tC (V.int 2)) tNil))) (tC (V.int 0)))) (te := (tOp (rIxT K) (tVar 8) (tC (V.int 0)))) rfl sc_l_house.nd rfl rfl (sw_true rfl rfl rfl (by decide +kernel)) (pi_list (pv 4)) (blkOk_by (own := [("_law_ask", 8)]) (N := ["_law_deal_here", "_law_words_here", "_law_num", "_law_k", "_law_asks", "_law_keepers", "_law_heard_here", "_law_hears", "_law_ask", "_law_q"]) (sc := defScope st_l_house) (by decide +kernel)) (fun _ _ _ _ _ => (pg_name (i := 8) sc_l_house.nd rfl (Or.inl rfl))) (fun _ _ _ _ _ => (pts_one (pt_cmpR op_eq (pe_call G_l_draw (hr.mono (by decide)) rfl D_l_draw.mg D_l_draw.kp D_l_draw.b .nil pass0 (pa_cons (pv 0) (pa_cons pe_int pa_nil))) pe_int (nomark _)))) (fun _ _ _ _ _ => (pe_ix ix_tup (pv 8) pe_int (fun _ _ => rfl))))
      (pss_cons (ps_setLc (i := 7) (own := [("_law_q", 9)]) (g := gName 9) (tt := tYes) (te := (tTup (tCons (tVar 9) (tCons (tOp (rIxL K) (tVar 1) (tC (V.int 10))) (tCons (tOp (rIxL K) (tVar 1) (tC (V.int 11))) (tCons (tOp (rIxL K) (tVar 1) (tC (V.int 12))) (tCons (tTup (tCons (tC (V.str "give")) (tCons (tOp (rIxL K) (tVar 1) (tC (V.int 12))) tNil))) tNil))))))) rfl sc_l_house.nd rfl rfl (sw_true rfl rfl rfl (by decide +kernel)) (pi_list (pv 6)) (blkOk_by (own := [("_law_q", 9)]) (N := ["_law_deal_here", "_law_words_here", "_law_num", "_law_k", "_law_asks", "_law_keepers", "_law_heard_here", "_law_hears", "_law_ask", "_law_q"]) (sc := defScope st_l_house) (by decide +kernel)) (fun _ _ _ _ _ => (pg_name (i := 9) sc_l_house.nd rfl (Or.inl rfl))) (fun _ _ _ _ _ => pts_nil) (fun _ _ _ _ _ => (pe_tup (pa_cons (pv 9) (pa_cons (pe_ix ix_list (pv 1) pe_int (fun _ _ => rfl)) (pa_cons (pe_ix ix_list (pv 1) pe_int (fun _ _ => rfl)) (pa_cons (pe_ix ix_list (pv 1) pe_int (fun _ _ => rfl)) (pa_cons (pe_tup (pa_cons pe_str (pa_cons (pe_ix ix_list (pv 1) pe_int (fun _ _ => rfl)) pa_nil))) pa_nil))))))))
      (pss_one (ps_expr (pe_bm PySem.F.plainAttrs_list PySem.F.slot_list_append PySem.F.type_list_append mt_append (pv 5) (pa_cons (pe_tup (pa_cons (pe_ix ix_list (pv 1) (pe_op op_add pe_int (pv 3)) (fun _ _ => rfl)) (pa_cons (pv 2) (pa_cons (pv 2) (pa_cons (pv 2) (pa_cons (pe_tup (pa_cons (pe_ix ix_list (pv 1) pe_int (fun _ _ => rfl)) (pa_cons (pe_ix ix_list (pv 1) pe_int (fun _ _ => rfl)) (pa_cons (pe_tup (pa_cons pe_str (pa_cons (pe_ix ix_list (pv 1) pe_int (fun _ _ => rfl)) pa_nil))) pa_nil)))) (pa_cons (pe_callTy call_tuple_of (by rfl) T.tuple (by decide +kernel) (pa_cons (pv 7) pa_nil)) pa_nil))))))) pa_nil)))))))
      (pss_one (ps_ret (pe_tup (pa_cons (pe_callTy call_tuple_of (by rfl) T.tuple (by decide +kernel) (pa_cons (pv 4) pa_nil)) (pa_cons (pe_callTy call_tuple_of (by rfl) T.tuple (by decide +kernel) (pa_cons (pv 5) pa_nil)) (pa_cons (pe_tup (pa_cons (pe_tup (pa_cons (pe_ix ix_list (pv 1) pe_int (fun _ _ => rfl)) (pa_cons (pe_tup pa_nil) (pa_cons (pv 2) (pa_cons (pe_tup (pa_cons pe_str (pa_cons pe_int pa_nil))) pa_nil))))) pa_nil)) pa_nil))))))))))), ?_⟩
    refine ⟨_, rfl, d, l, 20, rfl, by decide, hD, fun p ws H1 hp0 hp lw wn nd D1 k1 => ?_⟩
    have np := hD.new hp0
    have hg : ∀ i : Nat, i < 20 → ∃ x, ws[i]? = some x ∧ ws[i]?.getD Str.empty = x := fun i hi => ⟨ws[i], List.getElem?_eq_getElem (by omega), by rw [List.getElem?_eq_getElem (by omega)]; rfl⟩
    obtain ⟨x10, e10, g10⟩ := hg 10 (by decide)
    obtain ⟨x11, e11, g11⟩ := hg 11 (by decide)
    obtain ⟨x12, e12, g12⟩ := hg 12 (by decide)
    obtain ⟨x13, e13, g13⟩ := hg 13 (by decide)
    -- num
    refine ⟨by show 1 ≤ sizeLine; decide, fun nn hnn => ?_⟩
    have rn := Rep.new (ds := [.s "num"]) (vs := [V.str "num"]) hnn (Reps.cons rfl rfl)
    have s1 := Same.new (o := .tup [V.str "num"]) hnn
    have D2 := D1.same s1
    have k2 := k1.trans (Kp.same s1)
    have hp2 := s1 _ _ hp
    generalize hJ : upd H1 nn _ = J
    have hJ' : upd H1 nn (.tup [V.str "num"]) = J := hJ
    rw [hJ'] at rn s1 D2 k2 hp2
    have rn : Rep J numD (.ref nn) := rn
    -- asks
    refine ⟨_, rfl, d, l, 4, rfl, D2, by decide, by decide, fun na J1 a0 a1 D3 k3 => ⟨_, _, rfl, rfl, 1 + na, rfl, by omega, by omega, fun L hL => ?_⟩⟩
    have nL := D3.new hL
    have k3' := k2.trans k3
    have hp3 := k3 _ _ hp2 np.1 np.2
    have rn3 := rn.mono (kp_tup D2 k3)
    refine lc_range (lo := 0) (n := (1 + na).toNat) (fun i J => Same J1 J ∧ ∃ ua, J L = some (.lst ua) ∧ Reps J (((ws.take i).map askR).map rowD) ua ∧ ua.length = i) ⟨Same.new hL, [], upd_same, rfl, rfl⟩ (fun i J2 hi q => ?_) fun J2 q => ?_
    · obtain ⟨sm, ua, hJL, ra, lu⟩ := q
      have hi20 : i < 20 := by omega
      obtain ⟨xi, exi, _⟩ := hg i hi20
      refine ⟨rfl, lc_yes ?_⟩
      refine ⟨_, rfl, _, rfl, p, _, _, _, rfl, rfl, SqL.of (sm _ _ hp3), by rw [Int.zero_add]; exact wAt exi, _, rfl, _, rfl, by show 3 ≤ sizeLine; decide, fun t ht => ?_⟩
      have rt := Rep.new (ds := [.s xi, numD, numD]) (vs := [V.str xi, .ref nn, .ref nn]) ht (Reps.cons rfl (Reps.cons (rn3.mono (TupK.same sm)) (Reps.cons (rn3.mono (TupK.same sm)) rfl)))
      have st := Same.new (o := .tup [V.str xi, .ref nn, .ref nn]) ht
      have hJL2 := st _ _ hJL
      generalize hJ : upd J2 t _ = J3
      have hJ' : upd J2 t (.tup [V.str xi, .ref nn, .ref nn]) = J3 := hJ
      rw [hJ'] at rt st hJL2
      have nLt : ∀ b o, J1 b = some o → b ≠ L := fun b o e => ne_of_none e hL
      refine ⟨_, hJL2, small1000 (by omega), fun b o e => ?_, ua ++ [.ref t], upd_same, ?_, by simp [lu]⟩
      · rw [upd_ne (nLt b o e)]; exact st _ _ (sm _ _ e)
      · have tk : TupK J3 (upd J3 L (.lst (ua ++ [.ref t]))) := fun q us e => by rw [upd_ne (ne_of e hJL2 (by intro z; cases z))]; exact e
        rw [List.take_add_one, exi, List.map_append, List.map_append]
        exact Reps.append ((ra.mono (TupK.same st)).mono tk) (Reps.cons (rt.mono tk) rfl)
    · obtain ⟨sm, ua, hJL, ra, lu⟩ := q
      have hqs : (1 + na).toNat ≤ 4 := by omega
      have hq1 : 1 ≤ (1 + na).toNat := by omega
      generalize hN : (1 + na).toNat = N at hJL ra lu hqs hq1
      have D4 := D3.same sm
      have k4 := k3'.trans (Kp.same sm)
      have hp4 := sm _ _ hp3
      have rn4 := rn3.mono (TupK.same sm)
      have lq : (ws.take N).length = N := by rw [List.length_take]; omega
      generalize hqse : ws.take N = qs at ra lq
      refine ⟨Nat.zero_le _, fun c hc => ?_⟩
      have nc := D4.new hc
      have sc := Same.new (o := .lst []) hc
      have ac := upd_same (H := J2) (a := c) (o := .lst [])
      have hcL : c ≠ L := (ne_of_none hJL hc).symm
      have hcp : c ≠ p := (ne_of_none hp4 hc).symm
      generalize upd J2 c (.lst []) = J3 at sc ac ⊢
      refine ⟨_, rfl, d, l, 4, rfl, D4.same sc, by decide, by decide, fun nk J5 m0 m1 D5 k5 => ⟨_, _, rfl, rfl, 1 + nk, rfl, by omega, by omega, ?_⟩⟩
      have k25 : Kp d l J2 J5 := (Kp.same sc).trans k5
      refine for_range (lo := 0) (n := (1 + nk).toNat) (fun i σ J => DealAt J d l ∧ Kp d l J2 J ∧ ∃ (uc : List V) (kq : List (Str × List Str)) (o3 o6 o7 o8 o9 : Option V), σ = [some (.ref d), some (.ref p), some (.ref nn), o3, some (.ref L), some (.ref c), o6, o7, o8, o9] ∧ J c = some (.lst uc) ∧ Reps J ((kq.map fun p => kprR x10 x11 x12 p.1 p.2).map KpR.d) uc ∧ kq.length = i ∧ kq.map (·.1) = (ws.drop 5).take i ∧ ∀ p ∈ kq, p.2.length ≤ 6 ∧ ∀ q ∈ p.2, q ∈ qs)
        ⟨D5, k25, [], [], _, _, _, _, _, rfl, k5 _ _ ac nc.1 nc.2, rfl, rfl, rfl, fun _ z => nomatch z⟩ (fun i σ J hi q => ?_) fun σ J q => ?_
      · obtain ⟨DJ, kJ, uc, kq, o3, o6, o7, o8, o9, rfl, hJc, rc, lk, ek, hkq⟩ := q
        have hi4 : i < 4 := by omega
        have hpJ := kJ _ _ hp4 np.1 np.2
        have hLJ := kJ _ _ hJL nL.1 nL.2
        have raJ := ra.mono (kp_tup D4 kJ)
        have rnJ := rn4.mono (kp_tup D4 kJ)
        refine ⟨_, rfl, L, rfl, ⟨_, SqL.of hLJ⟩, fun F hF => ?_⟩
        have nF := DJ.new hF
        refine lc_list (K := K) (a := L) (xs := ua) (fun j J' => DealAt J' d l ∧ Kp d l J J' ∧ ∃ hq : List Str, J' F = some (.lst (hq.map V.str)) ∧ hq.length ≤ j ∧ ∀ q ∈ hq, q ∈ qs) ⟨DJ.same (Same.new hF), Kp.same (Same.new hF), [], upd_same, Nat.le_refl _, fun _ z => nomatch z⟩ (fun j J' _ z => SqL.of (z.2.1 _ _ hLJ nL.1 nL.2)) (fun j x J' hx z => ?_) fun J' z => ?_
        · obtain ⟨z1, z2, hq, z3, z4, z5⟩ := z
          have hj : j < ua.length := (List.getElem?_eq_some_iff.mp hx).1
          rw [lu, ← lq] at hj
          have et : qs[j]? = some qs[j] := List.getElem?_eq_getElem hj
          have hmem := List.mem_of_getElem? et
          generalize qs[j] = qj at et hmem
          refine ⟨rfl, ?_⟩
          refine ⟨_, rfl, d, l, 2, rfl, z1, by decide, by decide, fun r J6 r0 r1 D6 k6 => ⟨rfl, _, rfl, ite2 (fun cc => ?_) fun cc => ?_⟩⟩
          · have z36 := k6 _ _ z3 nF.1 nF.2
            obtain ⟨y, ey, ry⟩ := Reps.get (raJ.mono (kp_tup DJ (z2.trans k6))) (j := j) (d := rowD (askR qj)) (by rw [List.getElem?_map, List.getElem?_map, et]; rfl)
            obtain rfl : y = x := by rw [ey] at hx; exact Option.some.inj hx
            obtain ⟨t, tw, rfl, ht, _⟩ := rowD_at ry
            refine ⟨_, rfl, t, _, 0, _, rfl, rfl, SqT.of ht, at0c _ _, _, z36, small1000 (by rw [List.length_map]; omega), D6.upd nF, ?_, hq ++ [qj], by rw [upd_same, List.map_append]; rfl, by simp; omega, fun q hq' => ?_⟩
            · exact Kp.mut (Kp.refl d l J) (z2.trans k6) hF
            · rcases List.mem_append.mp hq' with hq' | hq'
              · exact z5 q hq'
              · rw [List.mem_singleton.mp hq']; exact hmem
          · exact ⟨D6, z2.trans k6, hq, k6 _ _ z3 nF.1 nF.2, by omega, z5⟩
        · obtain ⟨z1, z2, hq, z3, z4, z5⟩ := z
          rw [lu] at z4
          have hJc' := z2 _ _ hJc (by
            intro z; exact nc.1 z) (by intro z; exact nc.2 z)
          have hp' := z2 _ _ hpJ np.1 np.2
          have rn' := rnJ.mono (kp_tup DJ z2)
          have rc' := rc.mono (kp_tup DJ z2)
          have kJ' := kJ.trans z2
          -- hears
          refine ⟨_, rfl, F, rfl, ⟨_, SqL.of z3⟩, fun M hM => ?_⟩
          refine lc_list (K := K) (a := F) (xs := hq.map V.str) (fun j B => Same J' B ∧ ∃ um, B M = some (.lst um) ∧ Reps B (((hq.take j).map (hearR x10 x11 x12)).map rowD) um ∧ um.length = j) ⟨Same.new hM, [], upd_same, rfl, rfl⟩ (fun j B _ z => SqL.of (z.1 _ _ z3)) (fun j x B hx z => ?_) fun B z => ?_
          · obtain ⟨sB, um, hBM, rm, lm⟩ := z
            have hj : j < hq.length := by have := (List.getElem?_eq_some_iff.mp hx).1; rwa [List.length_map] at this
            have et : hq[j]? = some hq[j] := List.getElem?_eq_getElem hj
            generalize hq[j] = qj at et
            rw [List.getElem?_map, et] at hx
            obtain rfl : V.str qj = x := Option.some.inj hx
            have hpB := sB _ _ hp'
            refine ⟨rfl, lc_yes ?_⟩
            refine ⟨_, rfl, _, rfl, p, _, 10, _, rfl, rfl, SqL.of hpB, wAt e10, _, rfl, p, _, 11, _, rfl, rfl, SqL.of hpB, wAt e11, _, rfl, p, _, 12, _, rfl, rfl, SqL.of hpB, wAt e12, _, rfl, p, _, 12, _, rfl, rfl, SqL.of hpB, wAt e12, by show 2 ≤ sizeLine; decide, fun t1 ht1 => ⟨by show 5 ≤ sizeLine; decide, fun t2 ht2 => ?_⟩⟩
            have r1 := Rep.new (ds := [.s "give", .s x12]) (vs := [V.str "give", V.str x12]) ht1 (Reps.cons rfl (Reps.cons rfl rfl))
            have st1 := Same.new (o := .tup [V.str "give", V.str x12]) ht1
            generalize hG1 : upd B t1 _ = B1
            have hG1' : upd B t1 (.tup [V.str "give", V.str x12]) = B1 := hG1
            have ht2' : B1 t2 = none := by rw [← hG1']; exact ht2
            rw [hG1'] at r1 st1
            have r2 := Rep.new (ds := [.s qj, .s x10, .s x11, .s x12, .t [.s "give", .s x12]]) (vs := [V.str qj, V.str x10, V.str x11, V.str x12, .ref t1]) ht2' (Reps.cons rfl (Reps.cons rfl (Reps.cons rfl (Reps.cons rfl (Reps.cons r1 rfl)))))
            have st2 := Same.new (o := .tup [V.str qj, V.str x10, V.str x11, V.str x12, .ref t1]) ht2'
            generalize hG2 : upd B1 t2 _ = B2
            have hG2' : upd B1 t2 (.tup [V.str qj, V.str x10, V.str x11, V.str x12, .ref t1]) = B2 := hG2
            rw [hG2'] at r2 st2
            have sB2 := st1.trans st2
            have hBM2 := sB2 _ _ hBM
            refine ⟨_, hBM2, small1000 (by omega), fun b o e => ?_, um ++ [.ref t2], upd_same, ?_, by simp [lm]⟩
            · rw [upd_ne (ne_of_none e hM)]; exact sB2 _ _ (sB _ _ e)
            · have tk : TupK B2 (upd B2 M (.lst (um ++ [.ref t2]))) := fun q us e => by rw [upd_ne (ne_of e hBM2 (by intro z; cases z))]; exact e
              rw [List.take_add_one, et, List.map_append, List.map_append]
              exact Reps.append ((rm.mono (TupK.same sB2)).mono tk) (Reps.cons (r2.mono tk) rfl)
          · obtain ⟨sB, um, hBM, rm, lm⟩ := z
            rw [List.length_map, List.take_length] at rm
            rw [List.length_map] at lm
            have hpB := sB _ _ hp'
            have hcB := sB _ _ hJc'
            have rnB := rn'.mono (TupK.same sB)
            obtain ⟨xk, exk, gxk⟩ := hg (5 + i) (by omega)
            refine ⟨_, rfl, .inl ⟨rfl, _, SqL.of hcB⟩, ?_⟩
            refine ⟨_, rfl, _, rfl, _, _, rfl, rfl, p, _, _, _, rfl, rfl, SqL.of hpB, (by rw [show (5 : Int) + (0 + (i : Int)) = ((5 + i : Nat) : Int) by omega]; exact wAt exk), _, rfl, _, rfl, _, rfl, ?_⟩
            refine ⟨_, rfl, p, _, 10, _, rfl, rfl, SqL.of hpB, wAt e10, _, rfl, p, _, 11, _, rfl, rfl, SqL.of hpB, wAt e11, _, rfl, p, _, 10, _, rfl, rfl, SqL.of hpB, wAt e10, by show 2 ≤ sizeLine; decide, fun t1 ht1 => ?_⟩
            have r1 := Rep.new (ds := [.s "give", .s x10]) (vs := [V.str "give", V.str x10]) ht1 (Reps.cons rfl (Reps.cons rfl rfl))
            have st1 := Same.new (o := .tup [V.str "give", V.str x10]) ht1
            generalize hG1 : upd B t1 _ = B1
            have hG1' : upd B t1 (.tup [V.str "give", V.str x10]) = B1 := hG1
            rw [hG1'] at r1 st1
            refine ⟨by show 3 ≤ sizeLine; decide, fun t2 ht2 => ?_⟩
            have r2 := Rep.new (ds := [.s x10, .s x11, .t [.s "give", .s x10]]) (vs := [V.str x10, V.str x11, .ref t1]) ht2 (Reps.cons rfl (Reps.cons rfl (Reps.cons r1 rfl)))
            have st2 := Same.new (o := .tup [V.str x10, V.str x11, .ref t1]) ht2
            generalize hG2 : upd B1 t2 _ = B2
            have hG2' : upd B1 t2 (.tup [V.str x10, V.str x11, .ref t1]) = B2 := hG2
            rw [hG2'] at r2 st2
            have s02 := st1.trans st2
            refine ⟨_, rfl, M, um, rfl, .inl ⟨SqL.of (s02 _ _ hBM), fun t3 ht3 => ?_⟩⟩
            have r3 := Rep.new (ds := (hq.map (hearR x10 x11 x12)).map rowD) (vs := um) ht3 (rm.mono (TupK.same s02))
            have st3 := Same.new (o := .tup um) ht3
            generalize hG3 : upd B2 t3 _ = B3
            have hG3' : upd B2 t3 (.tup um) = B3 := hG3
            rw [hG3'] at r3 st3
            have s03 := s02.trans st3
            refine ⟨by show 6 ≤ sizeLine; decide, fun t4 ht4 => ?_⟩
            have r4 := Rep.new (ds := [.s xk, numD, numD, numD, .t [.s x10, .s x11, .t [.s "give", .s x10]], .t ((hq.map (hearR x10 x11 x12)).map rowD)]) (vs := [V.str xk, .ref nn, .ref nn, .ref nn, .ref t2, .ref t3]) ht4
              (Reps.cons rfl (Reps.cons (rnB.mono (TupK.same s03)) (Reps.cons (rnB.mono (TupK.same s03)) (Reps.cons (rnB.mono (TupK.same s03)) (Reps.cons (r2.mono (TupK.same st3)) (Reps.cons r3 rfl))))))
            have st4 := Same.new (o := .tup [V.str xk, .ref nn, .ref nn, .ref nn, .ref t2, .ref t3]) ht4
            generalize hG4 : upd B3 t4 _ = B4
            have hG4' : upd B3 t4 (.tup [V.str xk, .ref nn, .ref nn, .ref nn, .ref t2, .ref t3]) = B4 := hG4
            rw [hG4'] at r4 st4
            have s04 := s03.trans st4
            have hcB4 := s04 _ _ hcB
            have luc : uc.length = i := by have := Reps.len rc; rw [List.length_map, List.length_map] at this; omega
            refine ⟨c, uc, _, rfl, rfl, hcB4, small1000 (by omega), ?_⟩
            have tk : TupK B4 (upd B4 c (.lst (uc ++ [.ref t4]))) := fun q us e => by rw [upd_ne (ne_of e hcB4 (by intro z; cases z))]; exact e
            have k04 : Kp d l J' B4 := Kp.same (sB.trans s04)
            refine ⟨((z1.same sB).same s04).upd nc, fun b o e b1 b2 => ?_, uc ++ [.ref t4], kq ++ [(xk, hq)], _, _, _, _, _, rfl, upd_same, ?_, by simp [lk], ?_, fun y hy => ?_⟩
            · rw [upd_ne (ne_of_none e hc)]; exact s04 _ _ (sB _ _ (kJ' b o e b1 b2))
            · rw [List.map_append, List.map_append]
              exact Reps.append ((rc'.mono (TupK.same (sB.trans s04))).mono tk) (Reps.cons (r4.mono tk) rfl)
            · rw [List.map_append, ek, List.take_add_one, List.getElem?_drop, exk]; rfl
            · rcases List.mem_append.mp hy with hy | hy
              · exact hkq y hy
              · rw [List.mem_singleton.mp hy]; exact ⟨by show hq.length ≤ 6; omega, z5⟩
      · obtain ⟨DJ, kJ, uc, kq, o3, o6, o7, o8, o9, rfl, hJc, rc, lk, ek, hkq⟩ := q
        have hpJ := kJ _ _ hp4 np.1 np.2
        have hLJ := kJ _ _ hJL nL.1 nL.2
        have raJ := ra.mono (kp_tup D4 kJ)
        have rnJ := rn4.mono (kp_tup D4 kJ)
        have hnk : (1 + nk).toNat ≤ 4 := by omega
        have hnk1 : 1 ≤ (1 + nk).toNat := by omega
        generalize (1 + nk).toNat = NK at hnk hnk1 lk ek
        refine ⟨_, rfl, L, ua, rfl, .inl ⟨SqL.of hLJ, fun t1 ht1 => ?_⟩⟩
        have r1 := Rep.new (ds := (qs.map askR).map rowD) (vs := ua) ht1 raJ
        have st1 := Same.new (o := .tup ua) ht1
        generalize hG1 : upd J t1 _ = B1
        have hG1' : upd J t1 (.tup ua) = B1 := hG1
        rw [hG1'] at r1 st1
        refine ⟨_, rfl, c, uc, rfl, .inl ⟨SqL.of (st1 _ _ hJc), fun t2 ht2 => ?_⟩⟩
        have r2 := Rep.new (vs := uc) ht2 (rc.mono (TupK.same st1))
        have st2 := Same.new (o := .tup uc) ht2
        generalize hG2 : upd B1 t2 _ = B2
        have hG2' : upd B1 t2 (.tup uc) = B2 := hG2
        rw [hG2'] at r2 st2
        have s02 := st1.trans st2
        refine ⟨_, rfl, p, _, 13, _, rfl, rfl, SqL.of (s02 _ _ hpJ), wAt e13, Nat.zero_le _, fun t3 ht3 => ?_⟩
        have r3 := Rep.new (ds := []) (vs := []) ht3 rfl
        have st3 := Same.new (o := .tup []) ht3
        generalize hG3 : upd B2 t3 _ = B3
        have hG3' : upd B2 t3 (.tup []) = B3 := hG3
        rw [hG3'] at r3 st3
        have s03 := s02.trans st3
        refine ⟨_, rfl, by show 2 ≤ sizeLine; decide, fun t4 ht4 => ?_⟩
        have r4 := Rep.new (ds := [.s "give", .i 1]) (vs := [V.str "give", .int 1]) ht4 (Reps.cons rfl (Reps.cons rfl rfl))
        have st4 := Same.new (o := .tup [V.str "give", .int 1]) ht4
        generalize hG4 : upd B3 t4 _ = B4
        have hG4' : upd B3 t4 (.tup [V.str "give", .int 1]) = B4 := hG4
        rw [hG4'] at r4 st4
        have s04 := s03.trans st4
        refine ⟨by show 4 ≤ sizeLine; decide, fun t5 ht5 => ?_⟩
        have r5 := Rep.new (ds := [.s x13, .t [], numD, .t [.s "give", .i 1]]) (vs := [V.str x13, .ref t3, .ref nn, .ref t4]) ht5 (Reps.cons rfl (Reps.cons (r3.mono (TupK.same st4)) (Reps.cons (rnJ.mono (TupK.same s04)) (Reps.cons r4 rfl))))
        have st5 := Same.new (o := .tup [V.str x13, .ref t3, .ref nn, .ref t4]) ht5
        generalize hG5 : upd B4 t5 _ = B5
        have hG5' : upd B4 t5 (.tup [V.str x13, .ref t3, .ref nn, .ref t4]) = B5 := hG5
        rw [hG5'] at r5 st5
        refine ⟨by show 1 ≤ sizeLine; decide, fun t6 ht6 => ?_⟩
        have r6 := Rep.new (ds := [rowD (funR x13)]) (vs := [.ref t5]) ht6 (Reps.cons r5 rfl)
        have st6 := Same.new (o := .tup [V.ref t5]) ht6
        generalize hG6 : upd B5 t6 _ = B6
        have hG6' : upd B5 t6 (.tup [V.ref t5]) = B6 := hG6
        rw [hG6'] at r6 st6
        refine ⟨by show 3 ≤ sizeLine; decide, fun t7 ht7 => ?_⟩
        have s56 := st5.trans st6
        have s26 := (st3.trans st4).trans s56
        have s06 := s02.trans s26
        have r7 := Rep.new (ds := [.t ((qs.map askR).map rowD), .t ((kq.map fun p => kprR x10 x11 x12 p.1 p.2).map KpR.d), .t [rowD (funR x13)]]) (vs := [.ref t1, .ref t2, .ref t6]) ht7 (Reps.cons (r1.mono (TupK.same (st2.trans s26))) (Reps.cons (r2.mono (TupK.same s26)) (Reps.cons r6 rfl)))
        have st7 := Same.new (o := .tup [V.ref t1, .ref t2, .ref t6]) ht7
        have s07 := s06.trans st7
        refine k _ ⟨qs.map askR, (kq.map fun (p : Str × List Str) => kprR x10 x11 x12 p.1 p.2), [funR x13]⟩ _ r7 ?_ (DJ.same s07) (((k1.trans ((Kp.same s1).trans (k3.trans (Kp.same sm)))).trans kJ).trans (Kp.same s07))
        have ea : (qs.map askR).map (·.1) = qs := by rw [List.map_map]; exact List.map_id' qs
        have ekn : (kq.map fun p => kprR x10 x11 x12 p.1 p.2).map (·.n) = kq.map (·.1) := by rw [List.map_map]; rfl
        refine ⟨⟨by rw [List.length_map]; omega, by rw [List.length_map]; omega, (by show 1 ≤ 100; decide), fun kr hk => ?_⟩, by rw [List.length_map]; omega, by rw [List.length_map]; omega, by rw [List.length_map]; omega, by rw [List.length_map]; omega, ⟨qs, rfl⟩, ⟨x10, x11, x12, kq, rfl⟩, ⟨x13, rfl⟩, fun kr hk x hx => ?_, ?_, fun kr hk => ?_⟩
        · obtain ⟨y, hy, rfl⟩ := List.mem_map.mp hk
          show (y.2.map _).length ≤ 100
          rw [List.length_map]; have := (hkq y hy).1; omega
        · obtain ⟨y, hy, rfl⟩ := List.mem_map.mp hk
          obtain ⟨z, hz, rfl⟩ := List.mem_map.mp hx
          rw [ea]
          exact (hkq y hy).2 z hz
        · rw [ea, ekn, ek, ← hqse]
          have e1 : ws.take N ++ ((ws.drop 5).take NK ++ [(funR x13)].map (·.1)) = (List.range N ++ ((List.range NK).map (fun i => 5 + i) ++ [13])).map fun n => ws[n]?.getD Str.empty := by
            rw [List.map_append, List.map_append, List.map_map]
            congr 1
            · refine List.ext_getElem? fun j => ?_
              rw [List.getElem?_map, List.getElem?_take]
              by_cases hj : j < N
              · rw [if_pos hj, List.getElem?_range hj]
                obtain ⟨y, ey, gy⟩ := hg j (by omega)
                rw [Option.map_some, ey]; rfl
              · rw [if_neg hj, List.getElem?_eq_none (by rw [List.length_range]; omega)]; rfl
            · congr 1
              · refine List.ext_getElem? fun j => ?_
                rw [List.getElem?_map, List.getElem?_take, List.getElem?_drop]
                by_cases hj : j < NK
                · rw [if_pos hj, List.getElem?_range hj]
                  obtain ⟨y, ey, gy⟩ := hg (5 + j) (by omega)
                  rw [Option.map_some]
                  show _ = some (ws[5 + j]?.getD Str.empty)
                  rw [ey]; rfl
                · rw [if_neg hj, List.getElem?_eq_none (by rw [List.length_range]; omega)]; rfl
              · show [x13] = [ws[13]?.getD Str.empty]
                rw [g13]
          rw [e1]
          have hn : ∀ n ≤ 4, ∀ k ≤ 4, (List.range n ++ ((List.range k).map (fun i => 5 + i) ++ [13])).Nodup ∧ ∀ x ∈ (List.range n ++ ((List.range k).map (fun i => 5 + i) ++ [13])), x < 20 := by decide
          obtain ⟨h1, h2⟩ := hn N hqs NK hnk
          exact nodup_of_ix nd h1 fun n hn => by have := h2 n hn; omega
        · obtain ⟨y, hy, rfl⟩ := List.mem_map.mp hk
          show (y.2.map _).length ≤ 6
          rw [List.length_map]; exact (hkq y hy).1
end
end Ak
namespace Ak
open PySem L2
local macro_rules | `(tactic| walk_at "no attr") => `(tactic| exact rwF_no _ _ _ (by decide +kernel) (by decide +kernel) (by decide +kernel))
/-! ### tests that leave what stands -/
def DecS (t : TT) (σ : L2.St) (H : Hp) (p : Prop) : Prop := ∀ Q : Bool → Hp → Prop, (∀ H', Same H H' → p → Q true H') → (∀ H', Same H H' → ¬ p → Q false H') → t σ H Q
theorem decS_and {t u : TT} {σ : L2.St} {H : Hp} {p q : Prop} (h1 : DecS t σ H p) (h2 : ∀ H', Same H H' → p → DecS u σ H' q) : DecS (tAnd t u) σ H (p ∧ q) := fun Q a b => h1 _ (fun H1 s1 hp => by
  show u σ H1 Q
  exact h2 H1 s1 hp Q (fun H2 s2 hq => a H2 (s1.trans s2) ⟨hp, hq⟩) fun H2 s2 hq => b H2 (s1.trans s2) fun z => hq z.2) fun H1 s1 hp => by
  show Q false H1
  exact b H1 s1 fun z => hp z.1
theorem decS_or {t u : TT} {σ : L2.St} {H : Hp} {p q : Prop} (h1 : DecS t σ H p) (h2 : ∀ H', Same H H' → ¬ p → DecS u σ H' q) : DecS (tOr t u) σ H (p ∨ q) := fun Q a b => h1 _ (fun H1 s1 hp => by
  show Q true H1
  exact a H1 s1 (.inl hp)) fun H1 s1 hp => by
  show u σ H1 Q
  exact h2 H1 s1 hp Q (fun H2 s2 hq => a H2 (s1.trans s2) (.inr hq)) fun H2 s2 hq => b H2 (s1.trans s2) fun z => z.elim hp hq
theorem decS_if {t : TT} {u v : TS} {D : Ends} {σ : L2.St} {H : Hp} {p : Prop} (h : DecS t σ H p) (h1 : ∀ H', Same H H' → p → u D σ H') (h2 : ∀ H', Same H H' → ¬ p → v D σ H') : tIfS t u v D σ H := h _ (fun H' s hp => iteT (h1 H' s hp)) fun H' s hp => iteF (h2 H' s hp)
theorem decS_eqI {i : Nat} {σ : L2.St} {H : Hp} {x n : Int} (e : σ[i]? = some (some (.int x))) : DecS (tTest (tOp rEq (tVar i) (tC (.int n)))) σ H (x = n) := fun Q a b => ⟨_, e, rfl, _, rfl, by
  by_cases h : x = n
  · rw [decide_eq_true (by rw [h])]; exact a H (Same.refl H) h
  · rw [decide_eq_false (fun z => h (by injection z))]; exact b H (Same.refl H) h⟩
theorem decS_rel {i : Nat} {σ : L2.St} {H : Hp} {x n : Int} {f : Int → Int → Bool} (e : σ[i]? = some (some (.int x))) : DecS (tTest (tOp (rI0 fun i j => V.bl (f i j)) (tVar i) (tC (.int n)))) σ H (f x n = true) := fun Q a b => ⟨_, e, _, _, rfl, rfl, _, rfl, by
  cases h : f x n with
  | true => exact a H (Same.refl H) h
  | false => exact b H (Same.refl H) (by rw [h]; decide)⟩
theorem decS_neNil {K : PySem.W.Frag} {i : Nat} {σ : L2.St} {H : Hp} {p : Addr} {xs : List V} (e : σ[i]? = some (some (.ref p))) (h : H p = some (.lst xs)) : DecS (tTest (tOp (rEqNil K true) (tVar i) (tLst tNil))) σ H (xs ≠ []) := fun Q a b => by
  refine ⟨_, e, Nat.zero_le _, fun z hz => ⟨p, z, _, rfl, rfl, SqL.of ((Same.new hz) _ _ h), SqL.of upd_same, _, rfl, ?_⟩⟩
  cases xs with
  | nil => exact b _ (Same.new hz) fun z => z rfl
  | cons y r => exact a _ (Same.new hz) fun z => nomatch z
theorem decS_eqNil {K : PySem.W.Frag} {i : Nat} {σ : L2.St} {H : Hp} {p : Addr} {xs : List V} (e : σ[i]? = some (some (.ref p))) (h : H p = some (.lst xs)) : DecS (tTest (tOp (rEqNil K false) (tVar i) (tLst tNil))) σ H (xs = []) := fun Q a b => by
  refine ⟨_, e, Nat.zero_le _, fun z hz => ⟨p, z, _, rfl, rfl, SqL.of ((Same.new hz) _ _ h), SqL.of upd_same, _, rfl, ?_⟩⟩
  cases xs with
  | nil => exact a _ (Same.new hz) rfl
  | cons y r => exact b _ (Same.new hz) fun z => nomatch z
theorem ixs_sorted (p : Str → Bool) : ∀ (l : List Str) (k : Nat), (ixs p l k).Pairwise (· < ·) ∧ ∀ x ∈ ixs p l k, k ≤ x
  | [], _ => ⟨.nil, fun _ z => nomatch z⟩
  | y :: r, k => by
    obtain ⟨h1, h2⟩ := ixs_sorted p r (k + 1)
    rw [ixs]
    split
    · refine ⟨.cons (fun x hx => by have := h2 x hx; omega) h1, fun x hx => ?_⟩
      rcases List.mem_cons.mp hx with rfl | hx
      · exact Nat.le_refl _
      · have := h2 x hx; omega
    · exact ⟨h1, fun x hx => by have := h2 x hx; omega⟩
theorem max_ix {m : HM} {s : BS} {q : Str} {n : Nat} (hm : n ∈ ixs (hrs m q) s.st 0) (hx : ∀ y ∈ ixs (hrs m q) s.st 0, y ≤ n) : letsB m s (.ask q (n : Int)) = true := by
  rcases ask_ix (m := m) (s := s) (q := q) (n := (n : Int)) with ⟨e0, _⟩ | ⟨us, k, e0, _, e1⟩
  · rw [e0] at hm; cases hm
  · have h1 := (ixs_sorted (hrs m q) s.st 0).1
    rw [e0] at h1 hm hx
    have h2 := hx k (by simp)
    have : n ≤ k := by
      rcases List.mem_append.mp hm with hm | hm
      · exact Nat.le_of_lt ((List.pairwise_append.mp h1).2.2 n hm k (by simp))
      · rw [List.mem_singleton.mp hm]; exact Nat.le_refl _
    rw [e1]
    exact decide_eq_true (by omega)
end Ak
namespace Ak
open PySem L2
local macro_rules | `(tactic| walk_at "no attr") => `(tactic| exact rwF_no _ _ _ (by decide +kernel) (by decide +kernel) (by decide +kernel))
/-! ### a row that can come -/
abbrev st_l_row : Stmt := top 22
theorem sc_l_row : FnScope ["_law_deal_here", "_law_heard_here", "_law_stands", "_law_holds", "_law_way", "_law_names", "_law_some", "_law_name", "_law_q", "_law_small", "_law_j", "_law_k"] ["_law_deal_here", "_law_heard_here", "_law_stands", "_law_holds"] (defScope st_l_row) := ⟨rfl, rfl, rfl, by decide +kernel, rfl, by decide +kernel, by decide +kernel⟩
theorem GoAt.kp {A : Addr → Prop} {H H' : Hp} {dA S Hs d l : Addr} {m : HM} {s : BS} (G : GoAt A H dA S Hs m s) (k : Kp d l H H') (hA : ∀ a, A a → a ≠ d ∧ a ≠ l) (hS : S ≠ d ∧ S ≠ l) (hH : Hs ≠ d ∧ Hs ≠ l) : GoAt A H' dA S Hs m s := by
  obtain ⟨us, h3, h4⟩ := G.hs
  exact G.mono (fun a o h e => k a o e (hA a h).1 (hA a h).2) (by rw [G.st]; exact k _ _ G.st hS.1 hS.2) (by rw [h3]; exact k _ _ h3 hH.1 hH.2)
structure RowP (A : Addr → Prop) (H : Hp) (d l dA S Hs : Addr) (m : HM) (s : BS) : Prop where
  D : DealAt H d l
  G : GoAt A H dA S Hs m s
  hA : ∀ a, A a → a ≠ d ∧ a ≠ l
  hS : S ≠ d ∧ S ≠ l
  hH : Hs ≠ d ∧ Hs ≠ l
theorem RowP.kp {A : Addr → Prop} {H H' : Hp} {d l dA S Hs : Addr} {m : HM} {s : BS} (p : RowP A H d l dA S Hs m s) (D : DealAt H' d l) (k : Kp d l H H') : RowP A H' d l dA S Hs m s := ⟨D, p.G.kp k p.hA p.hS p.hH, p.hA, p.hS, p.hH⟩
theorem RowP.same {A : Addr → Prop} {H H' : Hp} {d l dA S Hs : Addr} {m : HM} {s : BS} (p : RowP A H d l dA S Hs m s) (k : Same H H') : RowP A H' d l dA S Hs m s := p.kp (p.D.same k) (Kp.same k)
def spRow : Sp := fun vs H Q _ => ∃ (A : Addr → Prop) (d l dA S Hs : Addr) (m : HM) (s : BS), vs = [.ref d, .ref dA, .ref S, .ref Hs] ∧ RowP A H d l dA S Hs m s ∧ KnS m s ∧ s.st.length ≤ 61 ∧ s.hs.length ≤ 5000 ∧ 1 ≤ m.length ∧ m.length ≤ 50 ∧ (∀ p ∈ m, p.2.length ≤ 100) ∧
  ∀ (v : V) (r : BR) (H' : Hp), Rep H' r.d v → letsB m s r = true → (stepB s r).st.length ≤ 61 → DealAt H' d l → Kp d l H H' → Q v H'
theorem getH_mem {m : HM} {k : Str} {qs : List Str} (h : getH m k = some qs) : ∃ p ∈ m, p.2 = qs := by
  unfold getH at h
  cases e : m.find? (fun p => decide (p.1 = k)) with
  | none => rw [e] at h; cases h
  | some p => rw [e] at h; exact ⟨p, List.mem_of_find?_eq_some e, Option.some.inj h⟩
theorem getH_key {m : HM} {k : Str} (h : k ∈ m.map (·.1)) : (getH m k).isSome = true := by
  obtain ⟨p, hp, rfl⟩ := List.mem_map.mp h
  unfold getH
  rw [Option.isSome_map, List.find?_isSome]
  exact ⟨p, hp, decide_eq_true rfl⟩
section
variable {P : Program} {w : World} {K : PySem.W.Frag} {mg : Str → Option Value} {base : Heap} {f1 f2 : Addr} {d1 d2 : FuncData}
theorem ok_l_row {f : Addr} {fd : FuncData} (D : Fn K mg "_law_row" st_l_row ["_law_deal_here", "_law_heard_here", "_law_stands", "_law_holds"] f fd) (T : BltBk mg) (D_l_draw : Fn K mg "_law_draw" st_l_draw ["_law_deal_here", "_law_many"] f2 d2) (G_l_draw : FnOk P w K mg base CX0 1 f2 d2 ["_law_deal_here", "_law_many"] spDraw) : FnOk P w K mg base CX0 2 f fd ["_law_deal_here", "_law_heard_here", "_law_stands", "_law_holds"] spRow := by
  refine D.F.ok sc_l_row (fun vs H Q E h => ?_) (fun cdv A0 outer s0 H vs Q E hr h => ?_)
  · obtain ⟨A, d, l, dA, S, Hs, m, s, rfl, _⟩ := h
    rfl
  · obtain ⟨A, d, l, dA, S, Hs, m, s, rfl, RP, kn, ls, lh, lm1, lm2, hlm, k⟩ := h
    have hu := hu_of hr
    refine ⟨_, (pss_cons (ps_set (i := 4) sc_l_row.nd rfl (Or.inl rfl) (pe_call G_l_draw (hr.mono (by decide)) rfl D_l_draw.mg D_l_draw.kp D_l_draw.b .nil pass0 (pa_cons (pv 0) (pa_cons pe_int pa_nil))))
      (pss_cons (ps_set (i := 5) sc_l_row.nd rfl (Or.inl rfl) (pe_callB (call_sortedD rfl) (by rfl) T.sorted (by decide +kernel) (pa_cons (pv 1) pa_nil)))
      (pss_cons (ps_set (i := 6) sc_l_row.nd rfl (Or.inl rfl) (pe_lst pa_nil))
      (pss_cons (ps_if (PW.pt (pw_and (pt_cmpR op_eq (pv 4) pe_int (nomark _)) (pw_and1 (pt_cmpR (Ak.op_neNil hr.units) (pv 2) (pe_lst pa_nil) (nomark _))))) (pss_one (ps_ret (pe_tup (pa_cons pe_str (pa_cons (pe_ix ix_list (pv 2) (pe_un un_neg pe_int) (fun _ _ => rfl)) pa_nil))))) pss_nil)
      (C8.pss_cut (ps_if (PW.pt (pw_or (pt_cmpR op_eq (pv 4) pe_int (nomark _)) (pw_or1 (pt_cmpR op_eq (pv 4) pe_int (nomark _))))) (pss_cons (ps_for PassesOwn.never rfl (pi_list (pv 2)) (pg_name (i := 7) sc_l_row.nd rfl (Or.inl rfl)) (pss_one (ps_set (i := 6) sc_l_row.nd rfl (Or.inl rfl) (pe_op op_cat (pv 6) (pe_dget hu (pv 1) (pv 7) (fun _ _ => rfl))))))
      (pss_one (ps_if (pt_cmpR (Ak.op_neNil hr.units) (pv 6) (pe_lst pa_nil) (nomark _)) (pss_cons (ps_set (i := 8) sc_l_row.nd rfl (Or.inr rfl) (pe_ix ix_list (pv 6) (pe_call G_l_draw (hr.mono (by decide)) rfl D_l_draw.mg D_l_draw.kp D_l_draw.b .nil pass0 (pa_cons (pv 0) (pa_cons (pe_callB call_len_seq (by rfl) T.len (by decide +kernel) (pa_cons (pv 6) pa_nil)) pa_nil))) (fun _ _ => rfl)))
      (pss_one (ps_ret (pe_tup (pa_cons pe_str (pa_cons (pv 8) (pa_cons (pe_callB (cr_max rfl) (by rfl) T.max (by decide +kernel) (pa_cons (pe_lc (own := [("_law_k", 11), ("_law_name", 7)]) (g := gTup K 2 (gCons (gName 11) (gCons (gName 7) (gNil)))) (tt := tTest (tOp (rIn K false) (tVar 8) (tDGet (tVar 1) (tVar 7)))) (te := (tVar 11)) rfl sc_l_row.nd (pi_enum (by rfl) T.enumerate (pa_cons (pv 2) pa_nil)) (blkOk_by (own := [("_law_k", 11), ("_law_name", 7)]) (N := ["_law_deal_here", "_law_heard_here", "_law_stands", "_law_holds", "_law_way", "_law_names", "_law_some", "_law_name", "_law_q", "_law_small", "_law_j", "_law_k"]) (sc := defScope st_l_row) (by decide +kernel)) (fun _ _ _ _ _ => (pg_tup (by rfl) (pgs_cons (pg_name (i := 11) sc_l_row.nd rfl (Or.inl rfl)) (pgs_cons (pg_name (i := 7) sc_l_row.nd rfl (Or.inl rfl)) pgs_nil)))) (fun _ _ _ _ _ => (pts_one (pt_cmpR op_in_seq (pv 8) (pe_dget hu (pv 1) (pv 7) (fun _ _ => rfl)) (by rfl)))) (fun _ _ _ _ _ => (pv 11))) pa_nil)) pa_nil))))))) pss_nil))) pss_nil)
      (pss_cons (ps_setLc (i := 9) (own := [("_law_j", 10)]) (g := gName 10) (tt := tTest (tOp (rI0 fun i j => V.bl (decide (i ≤ j))) (tOp (rI0 fun i j => V.int (i + j)) (tCB (fun xs H Q => ∃ p ys, xs = [V.ref p] ∧ (SqL K H p ys ∨ SqT K H p ys) ∧ Q (V.int (ys.length : Int)) H) (tCons (tOp (rIxL K) (tVar 3) (tVar 10)) tNil)) (tCB (fun xs H Q => ∃ p ys, xs = [V.ref p] ∧ (SqL K H p ys ∨ SqT K H p ys) ∧ Q (V.int (ys.length : Int)) H) (tCons (tVar 2) tNil))) (tC (V.int 60)))) (te := (tVar 10)) rfl sc_l_row.nd rfl rfl (sw_true rfl rfl rfl (by decide +kernel)) (pi_range1 rfl T.range (pa_cons (pe_callB call_len_seq (by rfl) T.len (by decide +kernel) (pa_cons (pv 3) pa_nil)) pa_nil)) (blkOk_by (own := [("_law_j", 10)]) (N := ["_law_deal_here", "_law_heard_here", "_law_stands", "_law_holds", "_law_way", "_law_names", "_law_some", "_law_name", "_law_q", "_law_small", "_law_j", "_law_k"]) (sc := defScope st_l_row) (by decide +kernel)) (fun _ _ _ _ _ => (pg_name (i := 10) sc_l_row.nd rfl (Or.inl rfl))) (fun _ _ _ _ _ => (pts_one (pt_cmpR op_le (pe_op op_add (pe_callB call_len_seq (by rfl) T.len (by decide +kernel) (pa_cons (pe_ix ix_list (pv 3) (pv 10) (fun _ _ => rfl)) pa_nil)) (pe_callB call_len_seq (by rfl) T.len (by decide +kernel) (pa_cons (pv 2) pa_nil))) pe_int (nomark _)))) (fun _ _ _ _ _ => (pv 10)))
      (pss_cons (ps_if (PW.pt (pw_and (pt_cmpR op_gt (pv 4) pe_int (nomark _)) (pw_and (pt_cmpR op_lt (pv 4) pe_int (nomark _)) (pw_and1 (pt_cmpR (Ak.op_neNil hr.units) (pv 9) (pe_lst pa_nil) (nomark _)))))) (pss_one (ps_ret (pe_tup (pa_cons pe_str (pa_cons (pe_ix ix_list (pv 9) (pe_call G_l_draw (hr.mono (by decide)) rfl D_l_draw.mg D_l_draw.kp D_l_draw.b .nil pass0 (pa_cons (pv 0) (pa_cons (pe_callB call_len_seq (by rfl) T.len (by decide +kernel) (pa_cons (pv 9) pa_nil)) pa_nil))) (fun _ _ => rfl)) pa_nil))))) pss_nil)
      (pss_cons (ps_if (pt_cmpR op_eq (pv 4) pe_int (nomark _)) (pss_one (ps_ret (pe_tup (pa_cons pe_str (pa_cons (pe_ix ix_list (pe_lst (pa_cons (pe_call G_l_draw (hr.mono (by decide)) rfl D_l_draw.mg D_l_draw.kp D_l_draw.b .nil pass0 (pa_cons (pv 0) (pa_cons pe_int pa_nil))) (pa_cons (pe_op op_sub (pe_op op_sub (pe_op op_pow pe_int pe_int) pe_int) (pe_call G_l_draw (hr.mono (by decide)) rfl D_l_draw.mg D_l_draw.kp D_l_draw.b .nil pass0 (pa_cons (pv 0) (pa_cons (pe_op op_pow pe_int pe_int) pa_nil)))) pa_nil))) (pe_call G_l_draw (hr.mono (by decide)) rfl D_l_draw.mg D_l_draw.kp D_l_draw.b .nil pass0 (pa_cons (pv 0) (pa_cons pe_int pa_nil))) (fun _ _ => rfl)) pa_nil))))) pss_nil)
      (pss_cons (ps_if (pt_cmpR op_gt (pe_callB call_len_seq (by rfl) T.len (by decide +kernel) (pa_cons (pv 2) pa_nil)) pe_int (nomark _)) (pss_one (ps_ret (pe_tup (pa_cons pe_str (pa_cons (pe_ix ix_list (pv 2) (pe_un un_neg pe_int) (fun _ _ => rfl)) pa_nil))))) pss_nil)
      (pss_one (ps_ret (pe_tup (pa_cons pe_str (pa_cons (pe_ix ix_list (pv 5) (pe_call G_l_draw (hr.mono (by decide)) rfl D_l_draw.mg D_l_draw.kp D_l_draw.b .nil pass0 (pa_cons (pv 0) (pa_cons (pe_callB call_len_seq (by rfl) T.len (by decide +kernel) (pa_cons (pv 5) pa_nil)) pa_nil))) (fun _ _ => rfl)) pa_nil)))))))))))))), ?_⟩
    refine ⟨_, rfl, d, l, 6, rfl, RP.D, by decide, by decide, fun way J0 w0 w1 D0 k0 => ?_⟩
    have R0 := RP.kp D0 k0
    obtain ⟨⟨aD, kvs, hD, hdr⟩, hS0, ⟨us, hHs0, lus⟩, _⟩ := id R0.G
    refine ⟨_, rfl, dA, kvs, m.map (·.1), rfl, .inl hD, hdr.keys, by rw [List.length_map]; omega, fun ys N hperm _ hN => ?_⟩
    have nN := D0.new hN
    have lys : ys.length = m.length := by rw [hperm.length_eq, List.length_map]
    have hys : ∀ y ∈ ys, (getH m y).isSome = true := fun y hy => getH_key (hperm.mem_iff.mp hy)
    have sN := Same.new (o := .lst (ys.map V.str)) hN
    have aN := upd_same (H := J0) (a := N) (o := .lst (ys.map V.str))
    generalize upd J0 N (.lst (ys.map V.str)) = J1 at sN aN ⊢
    refine ⟨Nat.zero_le _, fun L0 hL0 => ?_⟩
    have nL0 := (D0.same sN).new hL0
    have sL0 := Same.new (o := .lst []) hL0
    have aL0 := upd_same (H := J1) (a := L0) (o := .lst [])
    have aN2 := sL0 _ _ aN
    generalize upd J1 L0 (.lst []) = J2 at sL0 aL0 aN2 ⊢
    have R2 := R0.same (sN.trans sL0)
    have k2 : Kp d l H J2 := k0.trans (Kp.same (sN.trans sL0))
    have fin : ∀ (v : V) (r : BR) (J : Hp), Rep J r.d v → letsB m s r = true → (stepB s r).st.length ≤ 61 → DealAt J d l → Kp d l J2 J → Q v J := fun v r J h1 h2 h3 h4 h5 => k v r J h1 h2 h3 h4 (k2.trans h5)
    clear k
    have endd : ∀ {J : Hp}, s.st ≠ [] → RowP A J d l dA S Hs m s → Kp d l J2 J → ∃ x, atI (s.st.map V.str) (-1) = some (.str x) ∧ ∀ t, J t = none → Q (.ref t) (upd J t (.tup [V.str "ended", V.str x])) := fun {J} hne RJ kJ => by
      rcases List.eq_nil_or_concat s.st with h0 | ⟨ini, x, h0⟩
      · exact absurd h0 hne
      · rw [List.concat_eq_append] at h0
        refine ⟨x, by rw [h0, List.map_append]; exact at_lastc _ _, fun t ht => ?_⟩
        refine fin _ (.ended x) _ (Rep.new ht (Reps.cons rfl (Reps.cons rfl rfl))) ?_ ?_ (RJ.D.same (Same.new ht)) (kJ.trans (Kp.same (Same.new ht)))
        · show decide (s.st.getLast? = some x) = true
          rw [h0, List.getLast?_concat]; exact decide_eq_true rfl
        · show s.st.dropLast.length ≤ 61
          rw [List.length_dropLast]; omega
    refine decS_if (decS_and (decS_eqI rfl) fun J sJ _ => decS_neNil rfl (sJ _ _ R2.G.st)) (fun J sJ hp => ?_) fun J sJ hnp => ?_
    · have RJ := R2.same sJ
      obtain ⟨x, ex, q⟩ := endd (fun z => hp.2 (by rw [z]; rfl)) RJ (Kp.same sJ)
      exact ⟨_, rfl, 1, rfl, S, _, -1, _, rfl, rfl, SqL.of RJ.G.st, ex, by show 2 ≤ sizeLine; decide, q⟩
    · clear hnp
      have RJ := R2.same sJ
      have aLJ := sJ _ _ aL0
      have aNJ := sJ _ _ aN2
      have kJ : Kp d l J2 J := Kp.same sJ
      refine ⟨fun σ J' => ∃ (o6 o7 o8 : Option V), σ = [some (.ref d), some (.ref dA), some (.ref S), some (.ref Hs), some (.int way), some (.ref N), o6, o7, o8, none, none, none] ∧ DealAt J' d l ∧ Kp d l J J', ?_, fun σ J' hw => ?_⟩
      · refine decS_if (decS_or (decS_eqI rfl) fun J' s' _ => decS_eqI rfl) (fun J' s' hp => ?_) fun J' s' hnp => ⟨_, _, _, rfl, RJ.D.same s', Kp.same s'⟩
        have RJ' := RJ.same s'
        obtain ⟨⟨aD, kvs, hD, hdr⟩, hSJ, ⟨us, hHs0, lus⟩, _⟩ := id RJ'.G
        refine ⟨_, rfl, S, rfl, ⟨_, SqL.of hSJ⟩, for_list (xs := s.st.map V.str) (fun i σ B => Same J' B ∧ ∃ (Ls : Addr) (qs : List Str) (o7 : Option V), σ = [some (.ref d), some (.ref dA), some (.ref S), some (.ref Hs), some (.int way), some (.ref N), some (.ref Ls), o7, none, none, none, none] ∧ B Ls = some (.lst (qs.map V.str)) ∧ (Ls ≠ d ∧ Ls ≠ l) ∧ qs.length ≤ 100 * i ∧ ∀ q ∈ qs, ∃ x ∈ s.st, hrs m q x = true)
          ⟨Same.refl _, L0, [], _, rfl, s' _ _ aLJ, nL0, Nat.zero_le _, fun _ z => nomatch z⟩ (fun i σ B _ q => SqL.of (q.1 _ _ hSJ)) (fun i x σ B hx q => ?_) fun σ B q => ?_⟩
        · obtain ⟨sB, Ls, qs, o7, rfl, hLs, nLs, lq, hq⟩ := q
          have hi : i < s.st.length := by have := (List.getElem?_eq_some_iff.mp hx).1; rwa [List.length_map] at this
          have et : s.st[i]? = some s.st[i] := List.getElem?_eq_getElem hi
          have hmem := List.mem_of_getElem? et
          generalize s.st[i] = y at et hmem
          rw [List.getElem?_map, et] at hx
          obtain rfl : V.str y = x := Option.some.inj hx
          have hk := kn.1 y hmem
          rcases hdr.get (k := y) with ⟨g1, g2⟩ | ⟨qy, a, g1, g2, _, ga⟩
          · rw [g1] at hk; cases hk
          obtain ⟨pm, hpm, epm⟩ := getH_mem g1
          have lqy := hlm pm hpm
          rw [epm] at lqy
          refine ⟨_, rfl, _, rfl, _, rfl, dA, _, rfl, by rw [← g2]; exact DGet.k (k := Sum.inr y) (sB _ _ hD), Ls, a, _, _, rfl, rfl, hLs, sB _ _ ga, ?_, fun F hF => ?_⟩
          · rw [List.length_map, List.length_map]; exact Nat.le_trans (by omega : _ ≤ 10000) (by decide)
          · refine ⟨sB.trans (Same.new hF), F, qs ++ qy, _, rfl, by rw [upd_same, List.map_append], (RJ'.same sB).D.new hF, by rw [List.length_append]; omega, fun q hq' => ?_⟩
            rcases List.mem_append.mp hq' with hq' | hq'
            · exact hq q hq'
            · exact ⟨y, hmem, by rw [hrs_get g1]; exact decide_eq_true hq'⟩
        · obtain ⟨sB, Ls, qs, o7, rfl, hLs, nLs, lq, hq⟩ := q
          rw [List.length_map] at lq
          have RB := RJ'.same sB
          refine decS_if (decS_neNil rfl hLs) (fun B1 s1 hne => ?_) fun B1 s1 _ => ⟨_, _, _, rfl, RB.D.same s1, Kp.same ((s'.trans sB).trans s1)⟩
          have RB1 := RB.same s1
          have hLs1 := s1 _ _ hLs
          have lq1 : 1 ≤ qs.length := by
            rcases Nat.eq_zero_or_pos qs.length with z | z
            · rw [List.length_eq_zero_iff.mp z] at hne; exact absurd rfl hne
            · exact z
          refine ⟨_, rfl, _, rfl, _, rfl, Ls, _, rfl, .inl (SqL.of hLs1), d, l, _, rfl, RB1.D, by rw [List.length_map]; omega, by rw [List.length_map]; omega, fun r B2 r0 r1 D2 k2' => ?_⟩
          rw [List.length_map] at r1
          have hLs2 := k2' _ _ hLs1 nLs.1 nLs.2
          have RB2 := RB1.kp D2 k2'
          obtain ⟨⟨aD2, kvs2, hD2, hdr2⟩, hS2, _, _⟩ := id RB2.G
          have hri : r.toNat < qs.length := by omega
          have et : qs[r.toNat]? = some qs[r.toNat] := List.getElem?_eq_getElem hri
          have hmem := List.mem_of_getElem? et
          generalize qs[r.toNat] = q at et hmem
          have hat : atI (qs.map V.str) r = some (.str q) := by
            have := wAt et
            rwa [Int.toNat_of_nonneg r0] at this
          obtain ⟨x0, hx0, hhx⟩ := hq q hmem
          refine ⟨Ls, _, r, _, rfl, rfl, SqL.of hLs2, hat, ?_⟩
          have kB2 : Kp d l J2 B2 := (Kp.same (((sJ.trans s').trans sB).trans s1)).trans k2'
          refine ⟨_, rfl, _, rfl, S, _, rfl, SqL.of hS2, fun L hL => lc_it walk_enum (fun i J => Same B2 J ∧ J L = some (.lst ((ixs (hrs m q) (s.st.take i) 0).map fun n : Nat => V.int (n : Int)))) ⟨Same.new hL, upd_same⟩ (fun i J _ z => SqL.of (z.1 _ _ hS2)) (fun i x J J1 hi z yy => ?_) fun J z => ?_⟩
          · obtain ⟨sm, hJ⟩ := z
            obtain ⟨T0, x1, x2, rfl, hT, rfl, ex1, ex2⟩ := yy
            obtain rfl : V.int (i : Int) = x1 := Option.some.inj ex1
            rw [List.length_map] at hi
            have et : s.st[i]? = some s.st[i] := List.getElem?_eq_getElem hi
            have hmem := List.mem_of_getElem? et
            generalize s.st[i] = x at et hmem
            have ex2' : (s.st.map V.str)[i]? = some x2 := ex2
            rw [List.getElem?_map, et] at ex2'
            obtain rfl : V.str x = x2 := Option.some.inj ex2'
            have sT := Same.new (o := .tup [V.int (i : Int), V.str x]) hT
            have s1 := sm.trans sT
            have hJ1 := sT _ _ hJ
            refine ⟨T0, _, rfl, SqT.of upd_same, rfl, _, _, rfl, _, _, rfl, rfl, rfl, ?_⟩
            generalize upd J T0 (.tup [V.int (i : Int), V.str x]) = J3 at s1 hJ1 ⊢
            have hk := kn.1 x hmem
            rcases hdr2.get (k := x) with ⟨g1, g2⟩ | ⟨qs, a, g1, g2, _, ga⟩
            · rw [g1] at hk; cases hk
            refine ⟨_, rfl, _, rfl, _, rfl, dA, _, rfl, by rw [← g2]; exact DGet.k (k := Sum.inr x) (s1 _ _ hD2), a, _, rfl, .inl (SqL.of (s1 _ _ ga)), rfl, flat_strs _, _, rfl, ?_⟩
            show (if inV (.str q) (qs.map V.str) = true then _ else _)
            rw [in_strsB, ← hrs_get g1 q]
            have e3 : ixs (hrs m q) (s.st.take (i + 1)) 0 = ixs (hrs m q) (s.st.take i) 0 ++ if hrs m q x = true then [i] else [] := by
              rw [List.take_add_one, et]
              show ixs (hrs m q) (s.st.take i ++ [x]) 0 = _
              rw [ixs_snoc, List.length_take, Nat.zero_add, Nat.min_eq_left (Nat.le_of_lt hi)]
            refine ite2 (fun c => ?_) fun c => ?_
            · refine ⟨_, rfl, _, hJ1, ?_, fun b o e => ?_, ?_⟩
              · rw [List.length_map]
                exact small1000 (Nat.le_trans (ixs_len _ _ _) (by rw [List.length_take]; omega))
              · rw [upd_ne (ne_of_none e hL)]; exact s1 _ _ e
              · rw [upd_same, e3, if_pos c, List.map_append]; rfl
            · exact ⟨s1, by rw [e3, if_neg c, List.append_nil]; exact hJ1⟩
          · obtain ⟨sm, hJ⟩ := z
            rw [List.length_map, List.take_length] at hJ
            have hne : ixs (hrs m q) s.st 0 ≠ [] := fun z => by
              have hany : s.st.any (hrs m q) = true := List.any_eq_true.mpr ⟨x0, hx0, hhx⟩
              obtain ⟨a, x, b, el, h1, h2⟩ := last_split hany
              rw [el, ixs_split h1 h2] at z
              exact absurd z (by simp)
            refine ⟨L, (ixs (hrs m q) s.st 0).map fun n : Nat => (n : Int), rfl, SqL.of (by rw [hJ, List.map_map]; rfl), ?_, fun mx hm hx => ?_⟩
            · rw [List.length_map]; exact List.length_pos_iff.mpr hne
            · obtain ⟨n, hn, rfl⟩ := List.mem_map.mp hm
              refine ⟨by show 3 ≤ sizeLine; decide, fun t ht => ?_⟩
              refine fin _ (.ask q (n : Int)) _ (Rep.new ht (Reps.cons rfl (Reps.cons rfl (Reps.cons rfl rfl)))) (max_ix hn fun y hy => ?_) ?_ ((D2.same sm).same (Same.new ht)) (kB2.trans (Kp.same (sm.trans (Same.new ht))))
              · have := hx (y : Int) (List.mem_map.mpr ⟨y, hy, rfl⟩); omega
              · show (s.st.take _).length ≤ 61
                rw [List.length_take]; omega
      · obtain ⟨o6, o7, o8, rfl, DJ', kJ'⟩ := hw
        have kJ2 := kJ.trans kJ'
        have R' := RJ.kp DJ' kJ'
        obtain ⟨⟨aD, kvs, hD, hdr⟩, hSJ, ⟨us, hHs0, lus⟩, _⟩ := id R'.G
        have aNJ' := kJ' _ _ aNJ nN.1 nN.2
        refine ⟨_, rfl, Hs, _, rfl, .inl (SqL.of hHs0), _, rfl, by omega, ?_, fun L hL => ?_⟩
        · rw [lus.len]; have : s.hs.length < 2 ^ 62 := Nat.lt_of_le_of_lt lh (by decide); omega
        have nL := DJ'.new hL
        rw [lus.len, Int.toNat_natCast]
        refine lc_it (walk_range (lo := 0) (n := s.hs.length)) (fun i B => Same J' B ∧ ∃ js : List Nat, B L = some (.lst (js.map fun n : Nat => V.int (n : Int))) ∧ js.length ≤ i ∧ ∀ j ∈ js, ∃ g, s.hs[j]? = some g ∧ g.length + s.st.length ≤ 60) ⟨Same.new hL, [], upd_same, Nat.zero_le _, fun _ z => nomatch z⟩ (fun _ _ _ _ => True.intro) (fun i x B B1 hi z yy => ?_) fun B z => ?_
        · obtain ⟨rfl, rfl⟩ := yy
          obtain ⟨sB, js, hJ, lj, hj⟩ := z
          have et : s.hs[i]? = some s.hs[i] := List.getElem?_eq_getElem hi
          generalize s.hs[i] = g at et
          obtain ⟨a, ea, aa, ha⟩ := lus.get et
          refine ⟨rfl, ?_⟩
          refine ⟨_, rfl, _, rfl, Hs, us, _, _, rfl, rfl, SqL.of (sB _ _ hHs0), (by rw [Int.zero_add]; exact at_natc _ i ea), a, _, rfl, .inl (SqL.of (sB _ _ ha)), _, rfl, S, _, rfl, .inl (SqL.of (sB _ _ hSJ)), _, _, rfl, rfl, _, _, rfl, rfl, _, rfl, ite2 (fun c => ?_) fun c => ⟨sB, js, hJ, by omega, hj⟩⟩
          have c' := of_decide_eq_true c
          rw [List.length_map, List.length_map] at c'
          refine ⟨_, rfl, _, hJ, ?_, fun b o e => ?_, js ++ [i], ?_, by simp; omega, fun j hj' => ?_⟩
          · rw [List.length_map]; exact Nat.lt_of_le_of_lt (by omega : js.length ≤ 5000) (by decide)
          · rw [upd_ne (ne_of_none e hL)]; exact sB _ _ e
          · rw [upd_same, List.map_append]
            show some (HO.lst (_ ++ [V.int (0 + (i : Int))])) = _
            rw [Int.zero_add]; rfl
          · rcases List.mem_append.mp hj' with hj' | hj'
            · exact hj j hj'
            · rw [List.mem_singleton.mp hj']; exact ⟨g, et, by omega⟩
        · obtain ⟨sB, js, hJ, lj, hj⟩ := z
          have RB := R'.same sB
          have aNB := sB _ _ aNJ'
          have kB : Kp d l J2 B := kJ2.trans (Kp.same sB)
          refine decS_if (decS_and (decS_rel rfl) fun B1 s1 _ => decS_and (decS_rel rfl) fun B2 s2 _ => decS_neNil rfl (s2 _ _ (s1 _ _ hJ))) (fun B1 s1 hp => ?_) fun B1 s1 _ => ?_
          · have RB1 := RB.same s1
            have hJ1 := s1 _ _ hJ
            have lj1 : 1 ≤ js.length := by
              rcases Nat.eq_zero_or_pos js.length with z | z
              · rw [List.length_eq_zero_iff.mp z] at hp; exact absurd rfl hp.2.2
              · exact z
            refine ⟨_, rfl, _, rfl, _, rfl, L, _, rfl, .inl (SqL.of hJ1), d, l, _, rfl, RB1.D, by rw [List.length_map]; omega, by rw [List.length_map]; omega, fun r B2 r0 r1 D2 k2' => ?_⟩
            rw [List.length_map] at r1
            have hri : r.toNat < js.length := by omega
            have et : js[r.toNat]? = some js[r.toNat] := List.getElem?_eq_getElem hri
            have hmem := List.mem_of_getElem? et
            generalize js[r.toNat] = j at et hmem
            obtain ⟨g, eg, hg⟩ := hj j hmem
            have hat : atI (js.map fun n : Nat => V.int (n : Int)) r = some (.int (j : Int)) := by
              have := at_natc (js.map fun n : Nat => V.int (n : Int)) r.toNat (v := .int (j : Int)) (by rw [List.getElem?_map, et]; rfl)
              rwa [Int.toNat_of_nonneg r0] at this
            refine ⟨L, _, r, _, rfl, rfl, SqL.of (k2' _ _ hJ1 nL.1 nL.2), hat, by show 2 ≤ sizeLine; decide, fun t ht => ?_⟩
            refine fin _ (.go (j : Int)) _ (Rep.new ht (Reps.cons rfl (Reps.cons rfl rfl))) ?_ ?_ (D2.same (Same.new ht)) ((kB.trans (Kp.same s1)).trans (k2'.trans (Kp.same (Same.new ht))))
            · have := (List.getElem?_eq_some_iff.mp eg).1
              show decide (0 ≤ (j : Int) ∧ (j : Int) < (s.hs.length : Int)) = true
              exact decide_eq_true ⟨by omega, by omega⟩
            · show (s.st ++ s.hs[(j : Int).toNat]?.getD []).length ≤ 61
              rw [Int.toNat_natCast, eg, Option.getD_some, List.length_append]; omega
          · have RB1 := RB.same s1
            have kB1 := kB.trans (Kp.same s1)
            refine decS_if (decS_eqI rfl) (fun B2 s2 _ => ?_) fun B2 s2 _ => ?_
            · have RB2 := RB1.same s2
              have p9 : (10 : Int) ^ (9 : Int).toNat = 1000000000 := by decide
              refine ⟨_, rfl, d, l, 10, rfl, RB2.D, by decide, by decide, fun r1 C1 a0 a1 D1 q1 => ?_⟩
              refine ⟨_, _, rfl, rfl, ⟨by decide, by decide, by decide⟩, _, _, rfl, rfl, _, rfl, _, _, rfl, rfl, ⟨by decide, by decide, by decide⟩, d, l, _, rfl, D1, by rw [p9]; decide, by rw [p9]; decide, fun r2 C2 b0 b1 D2 q2 => ⟨_, _, rfl, rfl, by show 2 ≤ sizeLine; decide, fun M hM => ?_⟩⟩
              rw [p9] at b1
              have nM := D2.new hM
              refine ⟨_, rfl, d, l, 2, rfl, D2.same (Same.new hM), by decide, by decide, fun r3 C3 c0 c1 D3 q3 => ?_⟩
              have hM3 := q3 _ _ upd_same nM.1 nM.2
              obtain ⟨x, hx, hx0⟩ : ∃ x, atI [V.int r1, V.int ((10 : Int) ^ (9 : Int).toNat - 1 - r2)] r3 = some (.int x) ∧ 0 ≤ x ∧ x ≤ 999999999 := by
                have : r3 = 0 ∨ r3 = 1 := by omega
                rcases this with rfl | rfl
                · exact ⟨r1, rfl, by omega, by omega⟩
                · exact ⟨_, rfl, by rw [p9]; omega, by rw [p9]; omega⟩
              refine ⟨M, _, r3, _, rfl, rfl, SqL.of hM3, hx, by show 2 ≤ sizeLine; decide, fun t ht => ?_⟩
              exact fin _ (.tell x) _ (Rep.new ht (Reps.cons rfl (Reps.cons rfl rfl))) (decide_eq_true hx0) ls (D3.same (Same.new ht)) (((kB1.trans (Kp.same s2)).trans (q1.trans q2)).trans ((Kp.same (Same.new hM)).trans (q3.trans (Kp.same (Same.new ht)))))
            · have RB2 := RB1.same s2
              have kB2 := kB1.trans (Kp.same s2)
              refine ⟨_, rfl, S, _, rfl, .inl (SqL.of RB2.G.st), _, _, rfl, rfl, _, rfl, ite2 (fun c => ?_) fun c => ?_⟩
              · have c' := of_decide_eq_true c
                rw [List.length_map] at c'
                obtain ⟨x, ex, q⟩ := endd (fun z => by rw [z] at c'; exact absurd c' (by decide)) RB2 kB2
                exact ⟨_, rfl, 1, rfl, S, _, -1, _, rfl, rfl, SqL.of RB2.G.st, ex, by show 2 ≤ sizeLine; decide, q⟩
              · have c' : s.st.length ≤ 60 := by
                  rw [decide_eq_true_eq, List.length_map] at c; omega
                have aN3 := s2 _ _ (s1 _ _ aNB)
                refine ⟨_, rfl, _, rfl, _, rfl, N, _, rfl, .inl (SqL.of aN3), d, l, _, rfl, RB2.D, by rw [List.length_map]; omega, by rw [List.length_map]; omega, fun r C1 a0 a1 D1 q1 => ?_⟩
                rw [List.length_map] at a1
                have hri : r.toNat < ys.length := by omega
                have et : ys[r.toNat]? = some ys[r.toNat] := List.getElem?_eq_getElem hri
                have hmem := List.mem_of_getElem? et
                generalize ys[r.toNat] = y at et hmem
                have hat : atI (ys.map V.str) r = some (.str y) := by
                  have := wAt et
                  rwa [Int.toNat_of_nonneg a0] at this
                refine ⟨N, _, r, _, rfl, rfl, SqL.of (q1 _ _ aN3 nN.1 nN.2), hat, by show 2 ≤ sizeLine; decide, fun t ht => ?_⟩
                refine fin _ (.keep y) _ (Rep.new ht (Reps.cons rfl (Reps.cons rfl rfl))) (hys y hmem) ?_ (D1.same (Same.new ht)) ((kB2.trans q1).trans (Kp.same (Same.new ht)))
                show (s.st ++ [y]).length ≤ 61
                rw [List.length_append]; exact Nat.succ_le_succ c'
end
end Ak
namespace Ak
open PySem L2
local macro_rules | `(tactic| walk_at "no attr") => `(tactic| exact rwF_no _ _ _ (by decide +kernel) (by decide +kernel) (by decide +kernel))
/-! ### a book of rows that can come -/
abbrev st_l_book : Stmt := top 23
theorem sc_l_book : FnScope ["_law_deal_here", "_law_program", "_law_many", "_law_heard_here", "_law_stands", "_law_holds", "_law_book_here", "_law_k"] ["_law_deal_here", "_law_program", "_law_many"] (defScope st_l_book) := ⟨rfl, rfl, rfl, by decide +kernel, rfl, by decide +kernel, by decide +kernel⟩
theorem firstW_app {m : HM} : ∀ (rs qs : List BR) (s : BS) (i : Nat), firstW m s rs i = none → firstW m s (rs ++ qs) i = firstW m (runB s rs) qs (i + rs.length)
  | [], qs, s, i, _ => rfl
  | r :: rs, qs, s, i, h => by
    have h' : (if letsB m s r = true then firstW m (stepB s r) rs (i + 1) else some i) = none := h
    by_cases hl : letsB m s r = true
    · rw [if_pos hl] at h'
      show (if letsB m s r = true then firstW m (stepB s r) (rs ++ qs) (i + 1) else some i) = _
      rw [if_pos hl, firstW_app rs qs _ _ h', List.length_cons, show i + 1 + rs.length = i + (rs.length + 1) by omega]
      rfl
    · rw [if_neg hl] at h'; cases h'
theorem RoomW_app {m : HM} : ∀ (rs qs : List BR) (s : BS), RoomW m s rs → (firstW m s rs 0 = none → RoomW m (runB s rs) qs) → RoomW m s (rs ++ qs)
  | [], qs, s, _, h => h rfl
  | r :: rs, qs, s, h, g => by
    refine ⟨h.1, fun hl => RoomW_app rs qs _ (h.2 hl) fun e => g ?_⟩
    show (if letsB m s r = true then firstW m (stepB s r) rs 1 else some 0) = none
    rw [if_pos hl]
    have : ∀ (rs : List BR) (s : BS) (i j : Nat), firstW m s rs i = none → firstW m s rs j = none := by
      intro rs
      induction rs with
      | nil => intro s i j _; rfl
      | cons r rs ih =>
        intro s i j h
        have h' : (if letsB m s r = true then firstW m (stepB s r) rs (i + 1) else some i) = none := h
        by_cases hl : letsB m s r = true
        · rw [if_pos hl] at h'
          show (if letsB m s r = true then firstW m (stepB s r) rs (j + 1) else some j) = none
          rw [if_pos hl]; exact ih _ _ _ h'
        · rw [if_neg hl] at h'; cases h'
    exact this _ _ _ _ e
theorem runB_snoc (s : BS) (rs : List BR) (r : BR) : runB s (rs ++ [r]) = stepB (runB s rs) r := by
  unfold runB; rw [List.foldl_append]; rfl
theorem hdK_all {ks : List KpR} {Pr : List Str → Prop} (h : ∀ k ∈ ks, Pr (k.hs.map (·.1))) : ∀ p ∈ hdK ks, Pr p.2 := by
  have : ∀ (ks : List KpR) (m : HM), (∀ k ∈ ks, Pr (k.hs.map (·.1))) → (∀ p ∈ m, Pr p.2) → ∀ p ∈ ks.foldl (fun m k => putH m k.n (k.hs.map (·.1))) m, Pr p.2 := by
    intro ks
    induction ks with
    | nil => intro m _ hm; exact hm
    | cons k r ih =>
      intro m hk hm
      refine ih _ (fun k' h' => hk k' (List.mem_cons_of_mem _ h')) fun p hp => ?_
      have hk0 := hk k List.mem_cons_self
      have hp : p ∈ putH m k.n (k.hs.map (·.1)) := hp
      unfold putH at hp
      split at hp
      · obtain ⟨q, hq, rfl⟩ := List.mem_map.mp hp
        split
        · exact hk0
        · exact hm q hq
      · rcases List.mem_append.mp hp with hp | hp
        · exact hm p hp
        · rw [List.mem_singleton.mp hp]; exact hk0
  exact this ks [] h fun _ z => nomatch z
theorem putH_pos (m : HM) (k : Str) (q : List Str) : 1 ≤ (putH m k q).length ∧ m.length ≤ (putH m k q).length := by
  unfold putH
  split
  · rename_i h
    rw [List.length_map]
    obtain ⟨p, hp, _⟩ := List.any_eq_true.mp h
    exact ⟨List.length_pos_of_mem hp, Nat.le_refl _⟩
  · rw [List.length_append]; simp
theorem hdK_pos {ks : List KpR} (h : 1 ≤ ks.length) : 1 ≤ (hdK ks).length := by
  obtain ⟨ini, k, rfl⟩ : ∃ ini k, ks = ini ++ [k] := by
    rcases List.eq_nil_or_concat ks with rfl | ⟨ini, k, rfl⟩
    · simp at h
    · exact ⟨ini, k, List.concat_eq_append⟩
  rw [hdK_snoc]; exact (putH_pos _ _ _).1
def spBook : Sp := fun vs H Q _ => ∃ (d l : Addr) (v : V) (h : Hou) (n : Nat), vs = [.ref d, v, .int (n : Int)] ∧ DealAt H d l ∧ Rep H h.d v ∧ h.Ok ∧ 1 ≤ h.ks.length ∧ n ≤ 1000 ∧
  ∀ (b : Addr) (us : List V) (rs : List BR) (H' : Hp), H b = none → H' b = some (.lst us) → Reps H' (rs.map BR.d) us → rs.length = n → firstW h.m ⟨[], []⟩ rs 0 = none → RoomW h.m ⟨[], []⟩ rs → DealAt H' d l → Kp d l H H' → Q (.ref b) H'
section
variable {P : Program} {w : World} {K : PySem.W.Frag} {mg : Str → Option Value} {base : Heap} {f1 f2 f3 : Addr} {d1 d2 d3 : FuncData}
theorem ok_l_book {f : Addr} {fd : FuncData} (D : Fn K mg "_law_book" st_l_book ["_law_deal_here", "_law_program", "_law_many"] f fd) (T : BltBk mg) (D_l_heard : Fn K mg "_law_heard" st_l_heard ["_law_program"] f1 d1) (G_l_heard : FnOk P w K mg base CX0 1 f1 d1 ["_law_program"] spHeard)
    (D_l_goes : Fn K mg "_law_goes" st_l_goes ["_law_heard_here", "_law_stands", "_law_holds", "_law_row_here"] f2 d2) (G_l_goes : FnOk P w K mg base CX0 1 f2 d2 ["_law_heard_here", "_law_stands", "_law_holds", "_law_row_here"] spGoes) (D_l_row : Fn K mg "_law_row" st_l_row ["_law_deal_here", "_law_heard_here", "_law_stands", "_law_holds"] f3 d3) (G_l_row : FnOk P w K mg base CX0 2 f3 d3 ["_law_deal_here", "_law_heard_here", "_law_stands", "_law_holds"] spRow) : FnOk P w K mg base CX0 3 f fd ["_law_deal_here", "_law_program", "_law_many"] spBook := by
  refine D.F.ok sc_l_book (fun vs H Q E h => ?_) (fun cdv A0 outer s0 H vs Q E hr h => ?_)
  · obtain ⟨d, l, v, h, n, rfl, _⟩ := h
    rfl
  · obtain ⟨d, l, v, h, n, rfl, hD, hv, ok, hk1, hn, k⟩ := h
    refine ⟨_, (pss_cons (ps_par3 (i := 3) (j := 4) (l := 5) (by rfl) sc_l_book.nd rfl rfl rfl (by decide) (by decide) (by decide) rfl rfl rfl (pa_cons (pe_call G_l_heard (hr.mono (by decide)) rfl D_l_heard.mg D_l_heard.kp D_l_heard.b .nil pass0 (pa_cons (pv 1) pa_nil)) (pa_cons (pe_lst pa_nil) (pa_cons (pe_lst pa_nil) pa_nil))) (by rfl))
      (pss_cons (ps_set (i := 6) sc_l_book.nd rfl (Or.inl rfl) (pe_lst pa_nil))
      (pss_cons (ps_for PassesOwn.never rfl (pi_range1 rfl T.range (pa_cons (pv 2) pa_nil)) (pg_name (i := 7) sc_l_book.nd rfl (Or.inl rfl)) (pss_cons (ps_expr (pe_bm PySem.F.plainAttrs_list PySem.F.slot_list_append PySem.F.type_list_append mt_append (pv 6) (pa_cons (pe_call G_l_row (hr.mono (by decide)) rfl D_l_row.mg D_l_row.kp D_l_row.b .nil pass0 (pa_cons (pv 0) (pa_cons (pv 3) (pa_cons (pv 4) (pa_cons (pv 5) pa_nil))))) pa_nil)))
      (pss_one (ps_expr (pe_call G_l_goes (hr.mono (by decide)) rfl D_l_goes.mg D_l_goes.kp D_l_goes.b .nil pass0 (pa_cons (pv 3) (pa_cons (pv 4) (pa_cons (pv 5) (pa_cons (pe_ix ix_list (pv 6) (pe_un un_neg pe_int) (fun _ _ => rfl)) pa_nil)))))))))
      (pss_one (ps_ret (pv 6)))))), ?_⟩
    refine ⟨_, rfl, v, h, rfl, hv, ok, fun dA J1 hdA HD s1 => ⟨Nat.zero_le _, fun S hS => ⟨Nat.zero_le _, fun Hs hHs => ⟨_, _, _, rfl, ?_⟩⟩⟩⟩
    have D1 := hD.same s1
    have nS : S ≠ Hs := fun z => by rw [← z, upd_same] at hHs; cases hHs
    have hHs1 : J1 Hs = none := by rw [upd_ne nS.symm] at hHs; exact hHs
    have s2 : Same J1 (upd (upd J1 S (.lst [])) Hs (.lst [])) := (Same.new hS).trans (Same.new hHs)
    have nSd := D1.new hS
    have nHd := D1.new hHs1
    have G0 : GoAt (fun a => (a ≠ S ∧ a ≠ Hs) ∧ a ≠ d ∧ a ≠ l) (upd (upd J1 S (.lst [])) Hs (.lst [])) dA S Hs h.m ⟨[], []⟩ :=
      ⟨HD.mono (fun a o z e => ⟨⟨ne_of_none e hS, ne_of_none e hHs1⟩, hD.new z⟩) (KpA.same s2), (upd_ne nS).trans upd_same, ⟨[], upd_same, rfl⟩, fun z => z.1.1 rfl, fun z => z.1.2 rfl, nS⟩
    have s12 := s1.trans s2
    have D2 := D1.same s2
    generalize upd (upd J1 S (.lst [])) Hs (.lst []) = J2 at G0 s12 D2 ⊢
    have hS2 : H S = none := s1.free hS
    have hH2 : H Hs = none := s1.free hHs1
    refine ⟨Nat.zero_le _, fun B hB => ?_⟩
    have nB := D2.new hB
    have nBS : B ≠ S := (ne_of_none G0.st hB).symm
    have nBH : B ≠ Hs := by obtain ⟨u0, h0, _⟩ := G0.hs; exact (ne_of_none h0 hB).symm
    have sB := Same.new (o := .lst []) hB
    have hB0 : H B = none := s12.free hB
    have G3 : GoAt (fun a => (a ≠ S ∧ a ≠ Hs) ∧ (a ≠ d ∧ a ≠ l) ∧ a ≠ B) (upd J2 B (.lst [])) dA S Hs h.m ⟨[], []⟩ := by
      obtain ⟨u0, h0, h1⟩ := G0.hs
      exact ⟨G0.dk.mono (fun a o z e => ⟨z.1, z.2, ne_of_none e hB⟩) (KpA.same sB), (upd_ne nBS.symm).trans G0.st, ⟨u0, (upd_ne nBH.symm).trans h0, h1.mono (fun a o z e => ⟨z.1, z.2, ne_of_none e hB⟩) (KpA.same sB).l⟩, fun z => z.1.1 rfl, fun z => z.1.2 rfl, G0.ne⟩
    have D3 := D2.same sB
    have s13 := s12.trans sB
    have aB := upd_same (H := J2) (a := B) (o := .lst [])
    generalize upd J2 B (.lst []) = J3 at G3 D3 s13 aB ⊢
    have lm1 : 1 ≤ h.m.length := hdK_pos hk1
    have lm2 : h.m.length ≤ 50 := Nat.le_trans (hdK_len _) ok.2.1
    have hlm : ∀ p ∈ h.m, p.2.length ≤ 100 := hdK_all (Pr := fun q => q.length ≤ 100) fun kr hk => by rw [List.length_map]; exact ok.2.2.2 kr hk
    refine ⟨_, rfl, (n : Int), rfl, by omega, by omega, ?_⟩
    rw [Int.toNat_natCast]
    refine for_range (lo := 0) (n := n) (fun i σ J => DealAt J d l ∧ Kp d l H J ∧ ∃ (rs : List BR) (us : List V) (o7 : Option V), σ = [some (.ref d), some v, some (.int (n : Int)), some (.ref dA), some (.ref S), some (.ref Hs), some (.ref B), o7] ∧ rs.length = i ∧ J B = some (.lst us) ∧ Reps J (rs.map BR.d) us ∧ GoAt (fun a => (a ≠ S ∧ a ≠ Hs) ∧ (a ≠ d ∧ a ≠ l) ∧ a ≠ B) J dA S Hs h.m (runB ⟨[], []⟩ rs) ∧ KnS h.m (runB ⟨[], []⟩ rs) ∧ (runB ⟨[], []⟩ rs).st.length ≤ 61 ∧ (runB ⟨[], []⟩ rs).hs.length ≤ i ∧ firstW h.m ⟨[], []⟩ rs 0 = none ∧ RoomW h.m ⟨[], []⟩ rs)
      ⟨D3, Kp.same s13, [], [], _, rfl, rfl, aB, rfl, G3, KnS.nil _, Nat.zero_le _, Nat.zero_le _, rfl, Nat.zero_le _⟩ (fun i σ J hi q => ?_) fun σ J q => ?_
    · obtain ⟨DJ, kJ, rs, us, o7, rfl, lr, hJB, ru, G, kn, lst, lhs, fw, rm⟩ := q
      generalize hs0 : runB ⟨[], []⟩ rs = s at G kn lst lhs
      refine ⟨_, rfl, .inl ⟨rfl, _, SqL.of hJB⟩, _, rfl, _, rfl, _, rfl, _, rfl, _, d, l, dA, S, Hs, h.m, s, rfl, ⟨DJ, G, fun a z => z.2.1, nSd, nHd⟩, kn, lst, by omega, lm1, lm2, hlm, fun y r J4 ry hl lst' D4 k4 => ?_⟩
      have hJB4 := k4 _ _ hJB nB.1 nB.2
      have lu : us.length = i := by rw [Reps.len ru, List.length_map, lr]
      refine ⟨B, us, _, rfl, rfl, hJB4, Nat.lt_of_le_of_lt (by omega : _ ≤ 1000) (by decide), ?_⟩
      have G4 := G.kp k4 (fun a z => z.2.1) nSd nHd
      have ru4 := ru.mono (kp_tup DJ k4)
      have D5 := D4.upd nB (o := .lst (us ++ [y]))
      have G5 : GoAt (fun a => (a ≠ S ∧ a ≠ Hs) ∧ (a ≠ d ∧ a ≠ l) ∧ a ≠ B) (upd J4 B (.lst (us ++ [y]))) dA S Hs h.m s := by
        obtain ⟨hu, h3, h4⟩ := G4.hs
        exact G4.mono (KpA.upd fun z => z.2.2 rfl) (upd_ne nBS.symm) (upd_ne nBH.symm)
      have tk : TupK J4 (upd J4 B (.lst (us ++ [y]))) := fun q us' e => by rw [upd_ne (ne_of e hJB4 (by intro z; cases z))]; exact e
      have ry5 := ry.mono tk
      have ru5 := ru4.mono tk
      have a5 := upd_same (H := J4) (a := B) (o := .lst (us ++ [y]))
      have kJ5 : Kp d l H (upd J4 B (.lst (us ++ [y]))) := fun b o e b1 b2 => by rw [upd_ne (ne_of_none e hB0)]; exact k4 _ _ (kJ _ _ e b1 b2) b1 b2
      generalize upd J4 B (.lst (us ++ [y])) = J5 at G5 D5 ry5 ru5 a5 kJ5 ⊢
      have fr : ∀ a, J5 a = none → (a ≠ S ∧ a ≠ Hs) ∧ (a ≠ d ∧ a ≠ l) ∧ a ≠ B := fun a e => by
        obtain ⟨hu, h3, h4⟩ := G5.hs
        exact ⟨⟨(ne_of_none G5.st e).symm, (ne_of_none h3 e).symm⟩, D5.new e, (ne_of_none a5 e).symm⟩
      refine ⟨_, rfl, _, rfl, _, rfl, _, rfl, 1, rfl, B, _, -1, _, rfl, rfl, SqL.of a5, at_lastc _ _, _, dA, S, Hs, y, h.m, s, r, rfl, G5, ry5, kn, Nat.le_trans lst (by decide), by omega, fun _ => Nat.le_trans lst' (by decide), fr, fun J6 k6 g6 => ?_⟩
      obtain ⟨hu, h3, h4⟩ := G5.hs
      have tk6 : TupK J5 J6 := fun q us' e => k6 _ _ e (ne_of e G5.st (by intro z; cases z)) (ne_of e h3 (by intro z; cases z))
      have es : runB ⟨[], []⟩ (rs ++ [r]) = stepB s r := by rw [runB_snoc, hs0]
      have hD6 : DealAt J6 d l := by
        obtain ⟨s', n', left, h1, h2, h3, h4, h5, h6⟩ := D5
        exact ⟨s', n', left, h1, h2, h3, h4, k6 _ _ h5 nSd.1.symm nHd.1.symm, k6 _ _ h6 nSd.2.symm nHd.2.symm⟩
      refine ⟨hD6, fun b o e b1 b2 => k6 _ _ (kJ5 _ _ e b1 b2) (ne_of_none e hS2) (ne_of_none e hH2), rs ++ [r], us ++ [y], _, rfl, by simp [lr], k6 _ _ a5 nBS nBH, ?_, by rw [es]; exact g6 hl, by rw [es]; exact kn.step hl, by rw [es]; exact lst', ?_, ?_, ?_⟩
      · rw [List.map_append]
        exact Reps.append (ru5.mono tk6) (Reps.cons (ry5.mono tk6) rfl)
      · rw [es]; have := stepB_hs s r; omega
      · rw [firstW_app _ _ _ _ fw, hs0]
        show (if letsB h.m s r = true then _ else _) = none
        rw [if_pos hl]; rfl
      · refine RoomW_app _ _ _ rm fun _ => ?_
        rw [hs0]
        exact ⟨Nat.le_trans lst (by decide), fun _ => Nat.le_trans lst' (by decide)⟩
    · obtain ⟨DJ, kJ, rs, us, o7, rfl, lr, hJB, ru, G, kn, lst, lhs, fw, rm⟩ := q
      exact ⟨_, rfl, k B us rs J hB0 hJB ru lr fw rm DJ kJ⟩
end
end Ak
namespace Ak
open PySem L2
local macro_rules | `(tactic| walk_at "no attr") => `(tactic| exact rwF_no _ _ _ (by decide +kernel) (by decide +kernel) (by decide +kernel))
/-! ### what a display makes: data that stand -/
def MkD (te : TE) (σ : L2.St) (H0 : Hp) (d : D) : Prop := ∀ H, Same H0 H → ∀ Q : VK, (∀ v H', Same H H' → Rep H' d v → Q v H') → te σ H Q
def MkDs (t : TA) (σ : L2.St) (H0 : Hp) (ds : List D) : Prop := ∀ H, Same H0 H → ∀ Q : List V → Hp → Prop, (∀ vs H', Same H H' → Reps H' ds vs → Q vs H') → t σ H Q
theorem mk_nil {σ : L2.St} {H0 : Hp} : MkDs tNil σ H0 [] := fun H _ Q k => k [] H (Same.refl H) rfl
theorem mk_cons {te : TE} {t : TA} {σ : L2.St} {H0 : Hp} {d : D} {ds : List D} (h : MkD te σ H0 d) (g : MkDs t σ H0 ds) : MkDs (tCons te t) σ H0 (d :: ds) := fun H s Q k => h H s _ fun v H1 s1 r1 => g H1 (s.trans s1) _ fun vs H2 s2 r2 => k (v :: vs) H2 (s1.trans s2) (Reps.cons (r1.mono (TupK.same s2)) r2)
theorem mk_tup {t : TA} {σ : L2.St} {H0 : Hp} {ds : List D} (g : MkDs t σ H0 ds) (hl : ds.length ≤ 1000) : MkD (tTup t) σ H0 (.t ds) := fun H s Q k => g H s _ fun vs H1 s1 r1 => ⟨by rw [Reps.len r1]; exact sz1000 hl, fun p hp => k _ _ (s1.trans (Same.new hp)) (Rep.new hp r1)⟩
theorem mk_str {σ : L2.St} {H0 : Hp} {x : Str} : MkD (tC (V.str x)) σ H0 (.s x) := fun H _ Q k => k _ H (Same.refl H) rfl
theorem mk_int {σ : L2.St} {H0 : Hp} {x : Int} : MkD (tC (V.int x)) σ H0 (.i x) := fun H _ Q k => k _ H (Same.refl H) rfl
theorem mk_vs {σ : L2.St} {H0 : Hp} {i : Nat} {x : Str} (e : σ[i]? = some (some (.str x))) : MkD (tVar i) σ H0 (.s x) := fun H _ Q k => ⟨_, e, k _ H (Same.refl H) rfl⟩
theorem mk_vi {σ : L2.St} {H0 : Hp} {i : Nat} {x : Int} (e : σ[i]? = some (some (.int x))) : MkD (tVar i) σ H0 (.i x) := fun H _ Q k => ⟨_, e, k _ H (Same.refl H) rfl⟩
theorem mk_i2 {ta tb : TE} {σ : L2.St} {H0 : Hp} {x y : Int} {f : Int → Int → Int} (h : MkD ta σ H0 (.i x)) (g : MkD tb σ H0 (.i y)) : MkD (tOp (rI0 fun i j => V.int (f i j)) ta tb) σ H0 (.i (f x y)) := fun H s Q k => h H s _ fun v H1 s1 r1 => g H1 (s.trans s1) _ fun w H2 s2 r2 => by
  cases (show v = _ from r1)
  cases (show w = _ from r2)
  exact ⟨_, _, rfl, rfl, k _ H2 (s1.trans s2) rfl⟩
theorem lst_use {t : TA} {σ : L2.St} {H0 H : Hp} {ds : List D} {Q : VK} (g : MkDs t σ H0 ds) (s : Same H0 H) (hl : ds.length ≤ 1000) (k : ∀ p us H', H p = none → H' p = some (.lst us) → Reps H' ds us → Same H H' → Q (.ref p) H') : tLst t σ H Q :=
  g H s _ fun vs H1 s1 r1 => ⟨by rw [Reps.len r1]; exact sz1000 hl, fun p hp => k p vs _ (s1.free hp) upd_same (r1.mono (TupK.same (Same.new hp))) (s1.trans (Same.new hp))⟩
/-! ### long books -/
theorem fw_cons {m : HM} {s : BS} {r : BR} {rs : List BR} {i : Nat} (h : letsB m s r = true) : firstW m s (r :: rs) i = firstW m (stepB s r) rs (i + 1) := by
  show (if letsB m s r = true then _ else _) = _
  rw [if_pos h]
theorem fw_rep {m : HM} {o : Str} (ho : (getH m o).isSome = true) : ∀ (k : Nat) (s : BS) (rs : List BR) (i : Nat), firstW m s (List.replicate k (.keep o) ++ rs) i = firstW m ⟨s.st ++ List.replicate k o, s.hs⟩ rs (i + k)
  | 0, s, rs, i => by simp
  | k + 1, s, rs, i => by
    rw [List.replicate_succ, List.cons_append, fw_cons (show letsB m s (.keep o) = true from ho), fw_rep ho k]
    show firstW m ⟨(s.st ++ [o]) ++ List.replicate k o, s.hs⟩ rs _ = _
    rw [List.append_assoc, show [o] ++ List.replicate k o = List.replicate (k + 1) o from rfl, show i + 1 + k = i + (k + 1) by omega]
theorem ask_top {m : HM} {q n o : Str} {a : List Str} {j : Nat} {hs : List (List Str)} (hn : hrs m q n = true) (ho : hrs m q o = false) : letsB m ⟨a ++ n :: List.replicate j o, hs⟩ (.ask q (a.length : Int)) = true := by
  have hb : (List.replicate j o).any (hrs m q) = false := by
    rw [List.any_eq_false]
    intro x hx
    rw [(List.mem_replicate.mp hx).2, ho]; decide
  have e := ixs_split (k := 0) (a := a) hn hb
  rcases ask_ix (m := m) (s := ⟨a ++ n :: List.replicate j o, hs⟩) (q := q) (n := (a.length : Int)) with ⟨e0, _⟩ | ⟨us, k, e0, _, e1⟩
  · rw [show ixs (hrs m q) (BS.mk (a ++ n :: List.replicate j o) hs).st 0 = _ from e] at e0
    exact absurd e0 (by simp)
  · rw [show ixs (hrs m q) (BS.mk (a ++ n :: List.replicate j o) hs).st 0 = _ from e] at e0
    have : 0 + a.length = k := by
      have := congrArg List.getLast? e0
      rw [List.getLast?_concat, List.getLast?_concat] at this
      exact Option.some.inj this
    rw [e1]; exact decide_eq_true (by omega)
def tower (n q o : Str) (k : Nat) : List BR := .keep n :: (List.replicate k (.keep o) ++ ([.ask q 0, .go 0, .tell (k : Int), .go 0] ++ ([.ask q ((k : Int) + 1), .ended o, .ended o, .go 1, .ended o] ++ [.go 0, .ask q (2 * (k : Int) - 1)])))
theorem tower_ok {m : HM} {n q o : Str} {k : Nat} (kn : (getH m n).isSome = true) (ko : (getH m o).isSome = true) (hn : hrs m q n = true) (ho : hrs m q o = false) (hk : 100 ≤ k) (hk2 : k ≤ 1000) : firstW m ⟨[], []⟩ (tower n q o k) 0 = none := by
  obtain ⟨j, rfl⟩ : ∃ j, k = j + 3 := ⟨k - 3, by omega⟩
  have rs : ∀ i, List.replicate (i + 1) o = List.replicate i o ++ [o] := fun i => List.replicate_succ'
  unfold tower
  refine (fw_cons (show letsB m ⟨[], []⟩ (.keep n) = true from kn)).trans ?_
  rw [fw_rep ko]
  have l1 : (n :: List.replicate (j + 3) o).length = j + 3 + 1 := by simp
  refine (fw_cons (s := ⟨n :: List.replicate (j + 3) o, []⟩) (r := .ask q 0) (ask_top (a := []) hn ho)).trans ?_
  refine (fw_cons (s := ⟨[], [n :: List.replicate (j + 3) o]⟩) (r := .go 0) rfl).trans ?_
  refine (fw_cons (s := ⟨n :: List.replicate (j + 3) o, [n :: List.replicate (j + 3) o]⟩) (r := .tell _) (decide_eq_true ⟨by omega, by omega⟩)).trans ?_
  refine (fw_cons (s := ⟨n :: List.replicate (j + 3) o, [n :: List.replicate (j + 3) o]⟩) (r := .go 0) rfl).trans ?_
  refine (fw_cons (s := ⟨(n :: List.replicate (j + 3) o) ++ n :: List.replicate (j + 3) o, [n :: List.replicate (j + 3) o]⟩) (r := .ask q _) (by have := ask_top (a := n :: List.replicate (j + 3) o) (j := j + 3) (hs := [n :: List.replicate (j + 3) o]) hn ho; rw [l1] at this; exact this)).trans ?_
  have e1 : stepB ⟨(n :: List.replicate (j + 3) o) ++ n :: List.replicate (j + 3) o, [n :: List.replicate (j + 3) o]⟩ (.ask q (((j + 3 : Nat) : Int) + 1)) = ⟨n :: List.replicate (j + 3) o, [n :: List.replicate (j + 3) o, n :: List.replicate (j + 3) o]⟩ := by
    show BS.mk (List.take (((j + 3 : Nat) : Int) + 1).toNat _) ([_] ++ [List.drop (((j + 3 : Nat) : Int) + 1).toNat _]) = _
    rw [show (((j + 3 : Nat) : Int) + 1).toNat = (n :: List.replicate (j + 3) o).length by rw [l1]; omega, List.take_left, List.drop_left]; rfl
  rw [e1]
  have end1 : ∀ (a : List Str) (i : Nat) (hs : List (List Str)) (rs' : List BR) (x : Nat), firstW m ⟨a ++ n :: List.replicate (i + 1) o, hs⟩ (.ended o :: rs') x = firstW m ⟨a ++ n :: List.replicate i o, hs⟩ rs' (x + 1) := fun a i hs rs' x => by
    have el : a ++ n :: List.replicate (i + 1) o = (a ++ n :: List.replicate i o) ++ [o] := by rw [rs, List.append_assoc]; rfl
    rw [fw_cons (s := ⟨a ++ n :: List.replicate (i + 1) o, hs⟩) (r := .ended o) (show decide ((a ++ n :: List.replicate (i + 1) o).getLast? = some o) = true by rw [el, List.getLast?_concat]; exact decide_eq_true rfl)]
    show firstW m ⟨(a ++ n :: List.replicate (i + 1) o).dropLast, hs⟩ _ _ = _
    rw [el, List.dropLast_concat]
  refine (end1 [] (j + 2) [n :: List.replicate (j + 3) o, n :: List.replicate (j + 3) o] _ _).trans ?_
  refine (end1 [] (j + 1) [n :: List.replicate (j + 3) o, n :: List.replicate (j + 3) o] _ _).trans ?_
  refine (fw_cons (s := ⟨n :: List.replicate (j + 1) o, [n :: List.replicate (j + 3) o, n :: List.replicate (j + 3) o]⟩) (r := .go 1) rfl).trans ?_
  refine (end1 (n :: List.replicate (j + 1) o) (j + 2) [n :: List.replicate (j + 3) o, n :: List.replicate (j + 3) o] _ _).trans ?_
  refine (fw_cons (s := ⟨(n :: List.replicate (j + 1) o) ++ n :: List.replicate (j + 2) o, [n :: List.replicate (j + 3) o, n :: List.replicate (j + 3) o]⟩) (r := .go 0) rfl).trans ?_
  have l2 : ((n :: List.replicate (j + 1) o) ++ n :: List.replicate (j + 2) o).length = 2 * j + 5 := by simp; omega
  refine (fw_cons (s := ⟨((n :: List.replicate (j + 1) o) ++ n :: List.replicate (j + 2) o) ++ n :: List.replicate (j + 3) o, [n :: List.replicate (j + 3) o, n :: List.replicate (j + 3) o]⟩) (r := .ask q _) (by
    have := ask_top (a := (n :: List.replicate (j + 1) o) ++ n :: List.replicate (j + 2) o) (j := j + 3) (hs := [n :: List.replicate (j + 3) o, n :: List.replicate (j + 3) o]) hn ho
    rw [l2] at this
    rw [show (2 * ((j + 3 : Nat) : Int) - 1) = ((2 * j + 5 : Nat) : Int) by omega]
    exact this)).trans ?_
  rfl
def rounds (f : Nat → Str) : Nat → List BR
  | 0 => []
  | k + 1 => rounds f k ++ [.keep (f k), .tell (k : Int), .ended (f k)]
theorem rounds_ok {m : HM} {f : Nat → Str} (h : ∀ k, (getH m (f k)).isSome = true) : ∀ k, k ≤ 1000 → firstW m ⟨[], []⟩ (rounds f k) 0 = none ∧ runB ⟨[], []⟩ (rounds f k) = ⟨[], []⟩ ∧ (rounds f k).length = 3 * k ∧ ((rounds f k).filter isGo).length = 0
  | 0, _ => ⟨rfl, rfl, rfl, rfl⟩
  | k + 1, hk => by
    obtain ⟨h1, h2, h3, h4⟩ := rounds_ok h k (by omega)
    rw [rounds]
    refine ⟨?_, ?_, by rw [List.length_append, h3]; simp; omega, by rw [List.filter_append, List.length_append, h4]; rfl⟩
    · rw [firstW_app _ _ _ _ h1, h2, fw_cons (show letsB m ⟨[], []⟩ (.keep (f k)) = true from h k), fw_cons (r := .tell _) (decide_eq_true ⟨by omega, by omega⟩), fw_cons (r := .ended (f k)) (decide_eq_true rfl)]
      rfl
    · unfold runB at h2 ⊢
      rw [List.foldl_append, h2]; rfl
theorem tower_len (n q o : Str) (k : Nat) : (tower n q o k).length = k + 12 ∧ ((tower n q o k).filter isGo).length = 4 := by
  unfold tower
  constructor
  · simp
  · have : (List.replicate k (BR.keep o)).filter isGo = [] := by
      rw [List.filter_eq_nil_iff]
      intro r hr
      rw [(List.mem_replicate.mp hr).2]; show ¬ false = true; decide
    rw [List.filter_cons, if_neg (by show ¬ false = true; decide), List.filter_append, this]; rfl
end Ak
namespace Ak
open PySem L2
local macro_rules | `(tactic| walk_at "no attr") => `(tactic| exact rwF_no _ _ _ (by decide +kernel) (by decide +kernel) (by decide +kernel))
/-! ### what a book comes to -/
abbrev st_summed : Stmt := top 13
theorem sc_summed : FnScope ["program", "book", "standing", "heard", "gone", "most", "row", "kept", "told", "keeper"] ["program", "book"] (defScope st_summed) := ⟨rfl, rfl, rfl, by decide +kernel, rfl, by decide +kernel, by decide +kernel⟩
structure SM where
  cs : List (Key × V)
  gone : List Int
  most : Nat
def zeroK (m : HM) : List (Key × V) := (m.map (·.1)).foldl (fun c k => putK c (Sum.inr k) (V.int 0)) []
def bumpK (c : List (Key × V)) (k : Str) : List (Key × V) := match valV c (Sum.inr k) with | some (.int n) => putK c (Sum.inr k) (V.int (n + 1)) | _ => c
def stepS (s : BS) (u : SM) (r : BR) : SM :=
  let t := max u.most (stepB s r).st.length
  match r with
  | .ask _ n => ⟨bumpK u.cs (s.st[n.toNat]?.getD Str.empty), u.gone ++ [0], t⟩
  | .go j => ⟨u.cs, u.gone.set j.toNat (u.gone[j.toNat]?.getD 0 + 1), t⟩
  | _ => ⟨u.cs, u.gone, t⟩
def runS : BS → SM → List BR → SM
  | _, u, [] => u
  | s, u, r :: rs => runS (stepB s r) (stepS s u r) rs
def sumB (m : HM) (rs : List BR) : SM := runS ⟨[], []⟩ ⟨zeroK m, [], 0⟩ rs
def isKeep : BR → Bool | .keep _ => true | _ => false
def tellV : BR → Option Int | .tell v => some v | _ => none
def keptN (rs : List BR) : Nat := (rs.filter isKeep).length
def tolds (rs : List BR) : List Int := rs.filterMap tellV
/-- a dict of whole numbers, each key once, every keeper there -/
structure CsOk (m : HM) (c : List (Key × V)) : Prop where
  nd : (c.map (·.1)).Nodup
  iv : ∀ p ∈ c, ∃ n, p.2 = V.int n
  kn : ∀ k, (getH m k).isSome = true → ∃ n, valV c (Sum.inr k) = some (V.int n)
  ln : c.length ≤ m.length
theorem putK_keys (c : List (Key × V)) (k : Key) (x : V) : (putK c k x).map (·.1) = if (c.any fun kv => decide (kv.1 = k)) = true then c.map (·.1) else c.map (·.1) ++ [k] := by
  unfold putK
  split
  · rw [List.map_map]
    refine List.map_congr_left fun p _ => ?_
    show (if p.1 = k then (p.1, x) else p).1 = p.1
    split <;> rfl
  · rw [List.map_append]; rfl
theorem any_key {c : List (Key × V)} {k : Key} : (c.any fun kv => decide (kv.1 = k)) = true ↔ k ∈ c.map (·.1) := by
  rw [List.any_eq_true, List.mem_map]
  exact ⟨fun ⟨p, hp, e⟩ => ⟨p, hp, of_decide_eq_true e⟩, fun ⟨p, hp, e⟩ => ⟨p, hp, decide_eq_true e⟩⟩
theorem putK_nd {c : List (Key × V)} {k : Key} {x : V} (h : (c.map (·.1)).Nodup) : ((putK c k x).map (·.1)).Nodup := by
  rw [putK_keys]
  split
  · exact h
  · rename_i g
    refine List.nodup_append.mpr ⟨h, by simp, fun a ha b hb e => g (any_key.mpr ?_)⟩
    rw [← List.mem_singleton.mp hb, ← e]; exact ha
theorem putK_iv {c : List (Key × V)} {k : Key} {z : Int} (h : ∀ p ∈ c, ∃ n, p.2 = V.int n) : ∀ p ∈ putK c k (V.int z), ∃ n, p.2 = V.int n := by
  intro p hp
  unfold putK at hp
  split at hp
  · obtain ⟨q, hq, rfl⟩ := List.mem_map.mp hp
    split
    · exact ⟨z, rfl⟩
    · exact h q hq
  · rcases List.mem_append.mp hp with hp | hp
    · exact h p hp
    · rw [List.mem_singleton.mp hp]; exact ⟨z, rfl⟩
theorem valV_memN {c : List (Key × V)} (h : (c.map (·.1)).Nodup) : ∀ p ∈ c, valV c p.1 = some p.2 := by
  induction c with
  | nil => intro p hp; cases hp
  | cons q r ih =>
    rw [List.map_cons, List.nodup_cons] at h
    intro p hp
    rcases List.mem_cons.mp hp with rfl | hp
    · exact valV_pos rfl
    · have : q.1 ≠ p.1 := fun e => h.1 (by rw [e]; exact List.mem_map.mpr ⟨p, hp, rfl⟩)
      rw [valV_neg this]; exact ih h.2 p hp
theorem valV_none {c : List (Key × V)} {k : Key} (h : k ∉ c.map (·.1)) : valV c k = none := by
  induction c with
  | nil => rfl
  | cons q r ih =>
    rw [List.map_cons, List.mem_cons, not_or] at h
    rw [valV_neg (fun e => h.1 e.symm)]; exact ih h.2
theorem valV_some {c : List (Key × V)} {k : Key} {v : V} (h : valV c k = some v) : ∃ p ∈ c, p.1 = k ∧ p.2 = v := by
  induction c with
  | nil => cases h
  | cons q r ih =>
    by_cases e : q.1 = k
    · rw [valV_pos e] at h; exact ⟨q, List.mem_cons_self, e, Option.some.inj h⟩
    · rw [valV_neg e] at h
      obtain ⟨p, hp, e1, e2⟩ := ih h
      exact ⟨p, List.mem_cons_of_mem _ hp, e1, e2⟩
theorem valV_ints {c : List (Key × V)} {k : Key} (h : (c.map (·.1)).Nodup) (iv : ∀ p ∈ c, ∃ n, p.2 = V.int n) (hk : k ∈ c.map (·.1)) : ∃ n, valV c k = some (V.int n) := by
  obtain ⟨p, hp, rfl⟩ := List.mem_map.mp hk
  obtain ⟨n, e⟩ := iv p hp
  exact ⟨n, by rw [valV_memN h p hp, e]⟩
theorem CsOk.bump {m : HM} {c : List (Key × V)} {k : Str} (h : CsOk m c) : CsOk m (bumpK c k) := by
  unfold bumpK
  split
  · rename_i n e
    obtain ⟨p, hp, e1, _⟩ := valV_some e
    have ha : (c.any fun kv => decide (kv.1 = Sum.inr k)) = true := any_key.mpr (e1 ▸ List.mem_map.mpr ⟨p, hp, rfl⟩)
    have hk := putK_keys c (Sum.inr k) (V.int (n + 1))
    rw [if_pos ha] at hk
    have nd := putK_nd (k := Sum.inr k) (x := V.int (n + 1)) h.nd
    have iv := putK_iv (k := Sum.inr k) (z := n + 1) h.iv
    refine ⟨nd, iv, fun k' hk' => valV_ints nd iv ?_, ?_⟩
    · rw [hk]
      obtain ⟨n', e'⟩ := h.kn k' hk'
      obtain ⟨p', hp', e1', _⟩ := valV_some e'
      exact e1' ▸ List.mem_map.mpr ⟨p', hp', rfl⟩
    · have := congrArg List.length hk
      rw [List.length_map, List.length_map] at this
      rw [this]; exact h.ln
  · exact h
theorem zero_ok (m : HM) : CsOk m (zeroK m) := by
  have key : ∀ (l : List Str) (c : List (Key × V)), (c.map (·.1)).Nodup → (∀ p ∈ c, ∃ n, p.2 = V.int n) → ((l.foldl (fun c k => putK c (Sum.inr k) (V.int 0)) c).map (·.1)).Nodup ∧ (∀ p ∈ l.foldl (fun c k => putK c (Sum.inr k) (V.int 0)) c, ∃ n, p.2 = V.int n) ∧ (∀ k, (k ∈ c.map (·.1) ∨ ∃ x ∈ l, k = Sum.inr x) → k ∈ (l.foldl (fun c k => putK c (Sum.inr k) (V.int 0)) c).map (·.1)) ∧ (l.foldl (fun c k => putK c (Sum.inr k) (V.int 0)) c).length ≤ c.length + l.length := by
    intro l
    induction l with
    | nil =>
      intro c h1 h2
      refine ⟨h1, h2, fun k hk => ?_, Nat.le_refl _⟩
      rcases hk with hk | ⟨_, z, _⟩
      · exact hk
      · cases z
    | cons x r ih =>
      intro c h1 h2
      obtain ⟨a1, a2, a3, a4⟩ := ih (putK c (Sum.inr x) (V.int 0)) (putK_nd h1) (putK_iv h2)
      refine ⟨a1, a2, fun k hk => a3 k ?_, ?_⟩
      · have e := putK_keys c (Sum.inr x) (V.int 0)
        have mem : ∀ k, (k ∈ c.map (·.1) ∨ k = Sum.inr x) → k ∈ (putK c (Sum.inr x) (V.int 0)).map (·.1) := by
          intro k hk
          rw [e]
          split
          · rename_i g
            rcases hk with hk | hk
            · exact hk
            · rw [hk]; exact any_key.mp g
          · rcases hk with hk | hk
            · exact List.mem_append_left _ hk
            · exact List.mem_append_right _ (List.mem_singleton.mpr hk)
        rcases hk with hk | ⟨y, hy, rfl⟩
        · exact .inl (mem k (.inl hk))
        · rcases List.mem_cons.mp hy with rfl | hy
          · exact .inl (mem _ (.inr rfl))
          · exact .inr ⟨y, hy, rfl⟩
      · have := putK_lenc c (Sum.inr x) (V.int 0)
        rw [List.length_cons, List.foldl_cons]; omega
  obtain ⟨a1, a2, a3, a4⟩ := key (m.map (·.1)) [] .nil (fun _ z => nomatch z)
  refine ⟨a1, a2, fun k hk => valV_ints a1 a2 (a3 _ (.inr ⟨k, ?_, rfl⟩)), by rw [List.length_map, List.length_nil, Nat.zero_add] at a4; exact a4⟩
  unfold getH at hk
  rw [Option.isSome_map, List.find?_isSome] at hk
  obtain ⟨p, hp, e⟩ := hk
  exact List.mem_map.mpr ⟨p, hp, of_decide_eq_true e⟩
theorem stepS_cs {m : HM} {s : BS} {u : SM} {r : BR} (h : CsOk m u.cs) : CsOk m (stepS s u r).cs := by
  cases r <;> first | exact h | exact h.bump
theorem stepS_gone {m : HM} {s : BS} {u : SM} {r : BR} (h : u.gone.length = s.hs.length) (_hl : letsB m s r = true) : (stepS s u r).gone.length = (stepB s r).hs.length := by
  cases r <;> simp [stepS, stepB, h]
def SumAt (H : Hp) (t dC gL tL : Addr) (m : HM) (rs : List BR) : Prop := H t = some (.tup [.int (keptN rs : Int), .ref dC, .ref gL, .ref tL, .int ((sumB m rs).most : Int)]) ∧ H dC = some (.dK (sumB m rs).cs) ∧ H gL = some (.lst ((sumB m rs).gone.map V.int)) ∧ H tL = some (.lst ((tolds rs).map V.int))
def spSums : Sp := fun vs H Q _ => ∃ (v : V) (b : Addr) (us : List V) (h : Hou) (rs : List BR), vs = [v, .ref b] ∧ Rep H h.d v ∧ h.Ok ∧ H b = some (.lst us) ∧ Reps H (rs.map BR.d) us ∧ rs.length ≤ 3000 ∧ RoomW h.m ⟨[], []⟩ rs ∧ firstW h.m ⟨[], []⟩ rs 0 = none ∧
  ∀ (t dC gL tL : Addr) (H' : Hp), Same H H' → H t = none → H dC = none → H gL = none → H tL = none → gL ≠ tL → SumAt H' t dC gL tL h.m rs → Q (.ref t) H'
end Ak
namespace Ak
open PySem L2
local macro_rules | `(tactic| walk_at "no attr") => `(tactic| exact rwF_no _ _ _ (by decide +kernel) (by decide +kernel) (by decide +kernel))
/-! ### what the program says a book comes to -/
structure BltSm (K : PySem.W.Frag) (mg : Str → Option Value) (C f : Addr) : Prop where
  cl_Standing : Cls K C
  mk_Standing : Mk K C f
  c_Standing : mg "Standing" = some (.ref C)
  nK : NoAttr K C "keepers"
  nH : NoAttr K C "heard"
  len : mg "len" = none
  max : mg "max" = none
theorem dc_it {J : It} {n : Nat} {G : Hp → Prop} {Y : Nat → Hp → V → Hp → Prop} (w : Walk J n G Y) {g : TG} {tt : TT} {tk tv : TE} {vs : List Nat} {σ : L2.St} {H1 : Hp} {D : Addr} {Qd : Hp → Prop} (Pv : Nat → Hp → Prop) (p0 : Pv 0 (upd H1 D (.dK []))) (pG : ∀ i H, i ≤ n → Pv i H → G H)
    (ps : ∀ i x H H', i < n → Pv i H → Y i H x H' → g x (wipe σ vs) H' fun σ2 H2 => wipe σ2 vs = wipe σ vs ∧ tt σ2 H2 fun b H3 =>
      if b = true then tk σ2 H3 fun y H4 => tv σ2 H4 fun z H5 => ∃ kvs k, y = kV k ∧ H5 D = some (.dK kvs) ∧ kvs.length < sizeLine ∧ Pv (i + 1) (upd H5 D (.dK (putK kvs k z))) else Pv (i + 1) H3) (pd : ∀ H, Pv n H → Qd H) :
    ∃ W : Nat → Nat → Hp → Prop, (∃ m, W 0 m (upd H1 D (.dK []))) ∧ ∀ i m H, W i m H →
      (J.stop i H ∧ Qd H) ∨ (J.go i H ∧ ∃ Nx : Hp → Prop, (∀ H', Nx H' → ∃ m', m' < m ∧ W (i + 1) m' H') ∧ ∀ x H', J.yld i H x H' → g x (wipe σ vs) H' fun σ2 H2 => wipe σ2 vs = wipe σ vs ∧ tt σ2 H2 fun b H3 =>
        if b = true then tk σ2 H3 fun y H4 => tv σ2 H4 fun z H5 => ∃ kvs k, y = kV k ∧ H5 D = some (.dK kvs) ∧ kvs.length < sizeLine ∧ Nx (upd H5 D (.dK (putK kvs k z))) else Nx H3) := by
  refine ⟨fun i m H => (m = n - i ∧ i ≤ n) ∧ Pv i H, ⟨n, ⟨by omega, Nat.zero_le _⟩, p0⟩, fun i m H q => ?_⟩
  obtain ⟨⟨rfl, hi⟩, p⟩ := q
  have gg := pG i H hi p
  rcases Nat.lt_or_ge i n with lt | ge
  · exact .inr ⟨w.goes i H lt gg, Pv (i + 1), fun H' p' => ⟨n - (i + 1), by omega, ⟨rfl, lt⟩, p'⟩, fun x H' y => ps i x H H' lt p (w.yields i H x H' lt gg y)⟩
  · obtain rfl : i = n := by omega
    exact .inl ⟨w.stops H gg, pd H p⟩
def zeroN (l : List Str) : List (Key × V) := l.foldl (fun c k => putK c (Sum.inr k) (V.int 0)) []
theorem zeroN_snoc (l : List Str) (k : Str) : zeroN (l ++ [k]) = putK (zeroN l) (Sum.inr k) (V.int 0) := by unfold zeroN; rw [List.foldl_append]; rfl
theorem zeroN_len (l : List Str) : (zeroN l).length ≤ l.length := by
  have : ∀ (l : List Str) (c : List (Key × V)), (l.foldl (fun c k => putK c (Sum.inr k) (V.int 0)) c).length ≤ c.length + l.length := by
    intro l
    induction l with
    | nil => intro c; exact Nat.le_refl _
    | cons x r ih =>
      intro c
      have := ih (putK c (Sum.inr x) (V.int 0))
      have := putK_lenc c (Sum.inr x) (V.int 0)
      rw [List.foldl_cons, List.length_cons]; omega
  have := this l []
  rw [List.length_nil, Nat.zero_add] at this
  exact this
theorem StAt.kp {C : Addr} {A : Addr → Prop} {J J' : Hp} {r dA S Hs x y : Addr} {m : HM} {s : BS} (G : StAt C A J r dA S Hs m s) (k : Kp x y J J') (hA : ∀ a, A a → a ≠ x ∧ a ≠ y) (hr : r ≠ x ∧ r ≠ y) (hS : S ≠ x ∧ S ≠ y) (hH : Hs ≠ x ∧ Hs ≠ y) : StAt C A J' r dA S Hs m s :=
  ⟨let ⟨dx, e⟩ := G.1; ⟨dx, k _ _ e hr.1 hr.2⟩, G.2.kp k hA hS hH⟩
theorem wd_keep : ∀ {r : BR}, r.wd = "keep" → isKeep r = true
  | .keep _, _ => rfl
  | .ended _, h => absurd (show ("ended" : Str) = "keep" from h) (by decide +kernel)
  | .ask _ _, h => absurd (show ("ask" : Str) = "keep" from h) (by decide +kernel)
  | .go _, h => absurd (show ("go" : Str) = "keep" from h) (by decide +kernel)
  | .tell _, h => absurd (show ("tell" : Str) = "keep" from h) (by decide +kernel)
theorem wd_tell : ∀ {r : BR}, r.wd = "tell" → ∃ z, r = .tell z
  | .keep _, h => absurd (show ("keep" : Str) = "tell" from h) (by decide +kernel)
  | .ended _, h => absurd (show ("ended" : Str) = "tell" from h) (by decide +kernel)
  | .ask _ _, h => absurd (show ("ask" : Str) = "tell" from h) (by decide +kernel)
  | .go _, h => absurd (show ("go" : Str) = "tell" from h) (by decide +kernel)
  | .tell z, _ => ⟨z, rfl⟩
section
variable {P : Program} {w : World} {K : PySem.W.Frag} {mg : Str → Option Value} {base : Heap} {C f1 f3 : Addr} {d1 d3 : FuncData}
theorem ok_summed {f : Addr} {fd : FuncData} (D : Fn K mg "summed" st_summed ["program", "book"] f fd) (T : BltSm K mg C f1)
    (D_sd_init : Md K C "__init__" "Standing.__init__" st_sd_init ["self", "program"] f1 d1) (G_sd_init : FnOk P w K mg base CX0 3 f1 d1 ["self", "program"] (spStInit C))
    (D_sd_do : Md K C "do_row" "Standing.do_row" st_sd_do ["self", "row"] f3 d3) (G_sd_do : FnOk P w K mg base CX0 1 f3 d3 ["self", "row"] (spDo C)) : FnOk P w K mg base CX0 5 f fd ["program", "book"] spSums := by
  refine D.F.ok sc_summed (fun vs H Q E h => ?_) (fun cdv A0 outer s0 H vs Q E hr h => ?_)
  · obtain ⟨v, b, us, h, rs, rfl, _⟩ := h
    rfl
  · obtain ⟨v, b, us, h, rs, rfl, hv, ok, hb, hus, hl, room, fw, k⟩ := h
    have hu := hu_of hr
    refine ⟨_, (pss_cons (ps_set (i := 2) sc_summed.nd rfl (Or.inl rfl) (pe_make T.mk_Standing G_sd_init (hr.mono (by decide)) (by rfl) T.c_Standing D_sd_init.b .nil pass0 (pa_cons (pv 0) pa_nil)))
      (pss_cons (ps_lock (Ak.ps_setDc (i := 3) (own := [("keeper", 9)]) (g := gName 9) (tt := tYes) (tk := (tVar 9)) (tv := (tC (V.int 0))) rfl sc_summed.nd rfl rfl (Ak.sw_trueD rfl rfl rfl (by decide +kernel)) (pi_keys (pe_fld (pv 2) rfl)) (blkOk_by (own := [("keeper", 9)]) (N := ["program", "book", "standing", "heard", "gone", "most", "row", "kept", "told", "keeper"]) (sc := defScope st_summed) (by decide +kernel)) (fun _ _ _ _ _ => (pg_name (i := 9) sc_summed.nd rfl (Or.inl rfl))) (fun _ _ _ _ _ => pts_nil) (fun _ _ _ _ _ => (pv 9)) (fun _ _ _ _ _ => pe_int)))
      (pss_cons (ps_set (i := 4) sc_summed.nd rfl (Or.inl rfl) (pe_lst pa_nil))
      (pss_cons (ps_set (i := 5) sc_summed.nd rfl (Or.inl rfl) pe_int)
      (pss_cons (ps_for PassesOwn.never rfl (pi_list (pv 1)) (pg_name (i := 6) sc_summed.nd rfl (Or.inl rfl)) (C8.pss_cut (ps_if (pt_cmpR op_eq (pe_ix ix_tup (pv 6) pe_int (fun _ _ => rfl)) pe_str (nomark _)) (pss_cons (ps_daug hu (pv 3) (pe_ix ix_list (pe_fld (pv 2) rfl) (pe_ix ix_tup (pv 6) pe_int (fun _ _ => rfl)) (fun _ _ => rfl)) pe_int in_add (by intros; rfl))
      (pss_one (ps_expr (pe_bm PySem.F.plainAttrs_list PySem.F.slot_list_append PySem.F.type_list_append mt_append (pv 4) (pa_cons pe_int pa_nil))))) (pss_one (ps_if (pt_cmpR op_eq (pe_ix ix_tup (pv 6) pe_int (fun _ _ => rfl)) pe_str (nomark _)) (pss_one (ps_augS (pv 4) (pe_ix ix_tup (pv 6) pe_int (fun _ _ => rfl)) Ak.pget_list pe_int ip_add set_list)) pss_nil)))
      (pss_cons (ps_expr (pe_meth (pv 2) T.cl_Standing D_sd_do.m G_sd_do (hr.mono (by decide)) D_sd_do.b .nil pass0 (pa_cons (pv 6) pa_nil)))
      (pss_one (ps_set (i := 5) sc_summed.nd rfl (Or.inl rfl) (pe_callB (call_max2 rfl) (by rfl) T.max (by decide +kernel) (pa_cons (pv 5) (pa_cons (pe_callB call_len_seq (by rfl) T.len (by decide +kernel) (pa_cons (pe_fld (pv 2) rfl) pa_nil)) pa_nil))))))))
      (pss_cons (ps_set (i := 7) sc_summed.nd rfl (Or.inl rfl) (pe_callB call_len_seq (by rfl) T.len (by decide +kernel) (pa_cons (pe_lc (own := [("row", 6)]) (g := gName 6) (tt := tTest (tOp rEq (tOp (rIxT K) (tVar 6) (tC (V.int 0))) (tC (V.str "keep")))) (te := (tVar 6)) rfl sc_summed.nd (pi_list (pv 1)) (blkOk_by (own := [("row", 6)]) (N := ["program", "book", "standing", "heard", "gone", "most", "row", "kept", "told", "keeper"]) (sc := defScope st_summed) (by decide +kernel)) (fun _ _ _ _ _ => (pg_name (i := 6) sc_summed.nd rfl (Or.inl rfl))) (fun _ _ _ _ _ => (pts_one (pt_cmpR op_eq (pe_ix ix_tup (pv 6) pe_int (fun _ _ => rfl)) pe_str (nomark _)))) (fun _ _ _ _ _ => (pv 6))) pa_nil)))
      (pss_cons (ps_setLc (i := 8) (own := [("row", 6)]) (g := gName 6) (tt := tTest (tOp rEq (tOp (rIxT K) (tVar 6) (tC (V.int 0))) (tC (V.str "tell")))) (te := (tOp (rIxT K) (tVar 6) (tC (V.int 1)))) rfl sc_summed.nd rfl rfl (sw_true rfl rfl rfl (by decide +kernel)) (pi_list (pv 1)) (blkOk_by (own := [("row", 6)]) (N := ["program", "book", "standing", "heard", "gone", "most", "row", "kept", "told", "keeper"]) (sc := defScope st_summed) (by decide +kernel)) (fun _ _ _ _ _ => (pg_name (i := 6) sc_summed.nd rfl (Or.inl rfl))) (fun _ _ _ _ _ => (pts_one (pt_cmpR op_eq (pe_ix ix_tup (pv 6) pe_int (fun _ _ => rfl)) pe_str (nomark _)))) (fun _ _ _ _ _ => (pe_ix ix_tup (pv 6) pe_int (fun _ _ => rfl))))
      (pss_one (ps_ret (pe_tup (pa_cons (pv 7) (pa_cons (pv 3) (pa_cons (pv 4) (pa_cons (pv 8) (pa_cons (pv 5) pa_nil))))))))))))))), ?_⟩
    refine ⟨_, rfl, fun r dx hr0 hdx hne => ?_⟩
    have hr1 : (upd H dx (.own r)) r = none := by rw [upd_ne hne.symm]; exact hr0
    have s1 : Same H (upd (upd H dx (.own r)) r (.ins C dx [])) := (Same.new hdx).trans (Same.new hr1)
    refine ⟨r, dx, v, h, rfl, upd_same, hv.mono (TupK.same s1), ok, fun dA S Hs H1 SA hS0 hH0 k1 => ⟨rfl, ?_⟩⟩
    have s2 : Same H H1 := fun b o e => k1 b o (s1 b o e) (ne_of_none e hr0)
    have hS2 : H S = none := s1.free hS0
    have hH2 : H Hs = none := s1.free hH0
    obtain ⟨⟨dx', ho⟩, ⟨⟨aD, kvs, hD, hdr⟩, hS, ⟨uh, hHs, lus⟩, n1, n2, ne⟩⟩ := id SA
    have hrd : r ≠ dA := ne_of ho hD (by intro z; cases z)
    have lkv : kvs.length = h.m.length := hdr.len
    have kk := hdr.keys
    have lm : h.m.length ≤ 50 := Nat.le_trans (hdK_len _) ok.2.1
    refine ⟨dA, .dK kvs, hD, trivial, fun od => ?_⟩
    refine ⟨_, rfl, r, C, dx', _, .ref dA, rfl, (upd_ne hrd).trans ho, T.cl_Standing, T.nH, fsS_heard _ _ _, dA, od, rfl, .inl ⟨kvs, upd_same, fun Dc hDc => ?_⟩⟩
    have nDA : Dc ≠ dA := fun z => by rw [z, upd_same] at hDc; cases hDc
    have hDc1 : H1 Dc = none := by rw [upd_ne nDA] at hDc; exact hDc
    refine dc_it walk_keys (fun i J => J dA = some (.frz od (.dK kvs)) ∧ (∀ b o, H1 b = some o → b ≠ dA → J b = some o) ∧ J Dc = some (.dK (zeroN ((h.m.map (·.1)).take i)))) ⟨?_, fun b o e n => ?_, upd_same⟩ (fun i J _ q => q.1) (fun i x J J1 hi q y => ?_) fun J q => ?_
    · rw [upd_ne nDA.symm]; exact upd_same
    · rw [upd_ne (ne_of_none e hDc1), upd_ne n]; exact e
    · obtain ⟨q1, q2, q3⟩ := q
      obtain ⟨rfl, ky, vy, ek, rfl⟩ := y
      have hi' : i < (h.m.map (·.1)).length := by rw [List.length_map]; omega
      have et : (h.m.map (·.1))[i]? = some (h.m.map (·.1))[i] := List.getElem?_eq_getElem hi'
      generalize (h.m.map (·.1))[i] = nm at et
      obtain rfl : ky = Sum.inr nm := by
        have e1 : (kvs.map (·.1))[i]? = some ky := by rw [List.getElem?_map, ek]; rfl
        rw [kk, List.getElem?_map, et] at e1
        exact (Option.some.inj e1).symm
      refine ⟨rfl, lc_yes ?_⟩
      refine ⟨_, rfl, _, Sum.inr nm, rfl, q3, Nat.lt_of_le_of_lt (Nat.le_trans (zeroN_len _) (by rw [List.length_take, List.length_map]; omega) : _ ≤ 100) (by decide), ?_, fun b o e n => ?_, ?_⟩
      · rw [upd_ne nDA.symm]; exact q1
      · rw [upd_ne (ne_of_none e hDc1)]; exact q2 b o e n
      · rw [upd_same, List.take_add_one, et]
        exact congrArg (fun z => some (HO.dK z)) (zeroN_snoc _ _).symm
    obtain ⟨q1, q2, q3⟩ := q
    refine ⟨q1, ?_⟩
    rw [show kvs.length = (h.m.map (·.1)).length by rw [List.length_map, lkv], List.take_length] at q3
    have q3 : J Dc = some (.dK (zeroK h.m)) := q3
    have sG : Same H1 (upd J dA (.dK kvs)) := fun b o e => by
      by_cases z : b = dA
      · rw [z, upd_same]; rw [z, hD] at e; exact e
      · rw [upd_ne z]; exact q2 b o e z
    have hDcG : (upd J dA (.dK kvs)) Dc = some (.dK (zeroK h.m)) := (upd_ne nDA).trans q3
    generalize upd J dA (.dK kvs) = G at sG hDcG ⊢
    refine ⟨Nat.zero_le _, fun Gl hGl => ?_⟩
    have s3 := sG.trans (Same.new (o := .lst []) hGl)
    have aGl := upd_same (H := G) (a := Gl) (o := .lst [])
    have aDc := (Same.new (o := .lst []) hGl) _ _ hDcG
    have hGl1 : H1 Gl = none := sG.free hGl
    have nDG : Dc ≠ Gl := ne_of_none hDcG hGl
    generalize upd G Gl (.lst []) = G1 at s3 aGl aDc ⊢
    have SA1 : StAt C (fun a => (a ≠ S ∧ a ≠ Hs) ∧ (a ≠ Dc ∧ a ≠ Gl)) G1 r dA S Hs h.m ⟨[], []⟩ := by
      refine ⟨⟨dx', s3 _ _ ho⟩, ⟨HdAt.mono (fun a o z e => ⟨z, ne_of_none e hDc1, ne_of_none e hGl1⟩) (KpA.same s3) ⟨aD, kvs, hD, hdr⟩, s3 _ _ hS, ⟨uh, s3 _ _ hHs, lus.mono (fun a o z e => ⟨z, ne_of_none e hDc1, ne_of_none e hGl1⟩) (KpA.same s3).l⟩, fun z => z.1.1 rfl, fun z => z.1.2 rfl, ne⟩⟩
    have hrN : r ≠ Dc ∧ r ≠ Gl := ⟨ne_of_none ho hDc1, ne_of_none ho hGl1⟩
    have hSN : S ≠ Dc ∧ S ≠ Gl := ⟨ne_of_none hS hDc1, ne_of_none hS hGl1⟩
    have hHN : Hs ≠ Dc ∧ Hs ≠ Gl := ⟨ne_of_none hHs hDc1, ne_of_none hHs hGl1⟩
    have hDcH : H Dc = none := by
      cases e : H Dc with
      | none => rfl
      | some o => rw [s2 _ _ e] at hDc1; cases hDc1
    have hGlH : H Gl = none := by
      cases e : H Gl with
      | none => rfl
      | some o => rw [s2 _ _ e] at hGl1; cases hGl1
    clear q1 q2 q3 hDcG sG kk hDc
    have lu := Reps.len hus
    rw [List.length_map] at lu
    refine ⟨_, rfl, b, rfl, ⟨_, SqL.of (s3 _ _ (s2 _ _ hb))⟩, for_list (xs := us) (fun i σ J => Same H J ∧ ∃ (s : BS) (u : SM) (o6 : Option V), σ = [some v, some (.ref b), some (.ref r), some (.ref Dc), some (.ref Gl), some (.int (u.most : Int)), o6, none, none, none] ∧ StAt C (fun a => (a ≠ S ∧ a ≠ Hs) ∧ (a ≠ Dc ∧ a ≠ Gl)) J r dA S Hs h.m s ∧ J Dc = some (.dK u.cs) ∧ J Gl = some (.lst (u.gone.map V.int)) ∧ KnS h.m s ∧ s.hs.length ≤ i ∧ RoomW h.m s (rs.drop i) ∧ firstW h.m s (rs.drop i) i = none ∧ CsOk h.m u.cs ∧ u.gone.length = s.hs.length ∧ runS s u (rs.drop i) = sumB h.m rs)
      ⟨s2.trans s3, ⟨[], []⟩, ⟨zeroK h.m, [], 0⟩, _, rfl, SA1, aDc, aGl, KnS.nil _, Nat.le_refl _, room, fw, zero_ok _, rfl, rfl⟩ (fun i σ J _ q => SqL.of (q.1 _ _ hb)) (fun i x σ J hx q => ?_) fun σ J q => ?_⟩
    · obtain ⟨sm, s, u, o6, rfl, G, hDJ, hGJ, kn, lh, rm, fw, co, lg, er⟩ := q
      have hi : i < rs.length := by have := (List.getElem?_eq_some_iff.mp hx).1; omega
      have et : rs[i]? = some rs[i] := List.getElem?_eq_getElem hi
      have ed : rs.drop i = rs[i] :: rs.drop (i + 1) := List.drop_eq_getElem_cons hi
      generalize rs[i] = br at et ed
      rw [ed] at rm fw er
      have ryH : Rep H br.d x := by
        obtain ⟨y, ey, ry⟩ := Reps.get hus (j := i) (d := br.d) (by rw [List.getElem?_map, et]; rfl)
        obtain rfl : y = x := by rw [ey] at hx; exact Option.some.inj hx
        exact ry
      have fw' : (if letsB h.m s br = true then firstW h.m (stepB s br) (rs.drop (i + 1)) (i + 1) else some i) = none := fw
      have hlt : letsB h.m s br = true := by
        cases e : letsB h.m s br with
        | true => rfl
        | false => rw [e] at fw'; cases fw'
      rw [if_pos hlt] at fw'
      have lcs : u.cs.length < sizeLine := Nat.lt_of_le_of_lt (Nat.le_trans co.ln lm) (by decide)
      obtain ⟨dx2, hoJ⟩ := id G.1
      obtain ⟨_, hSJ, ⟨uh2, hHsJ, _⟩, _⟩ := id G.2
      refine ⟨fun σ J2 => Same H J2 ∧ σ = [some v, some (.ref b), some (.ref r), some (.ref Dc), some (.ref Gl), some (.int (u.most : Int)), some x, none, none, none] ∧ StAt C (fun a => (a ≠ S ∧ a ≠ Hs) ∧ (a ≠ Dc ∧ a ≠ Gl)) J2 r dA S Hs h.m s ∧ J2 Dc = some (.dK (stepS s u br).cs) ∧ J2 Gl = some (.lst ((stepS s u br).gone.map V.int)), ?_, fun σ J2 hw => ?_⟩
      · cases br with
        | keep kk =>
          obtain ⟨p, vs, rfl, hp, _, _, rfl, rfl, _, _, rfl, rfl, e⟩ := ryH
          cases e
          have hp := sm _ _ hp
          refine ⟨_, rfl, p, _, 0, _, rfl, rfl, SqT.of hp, at0c _ _, rfl, _, rfl, ite2 (fun c => absurd (V.str.inj (of_decide_eq_true c)) (by decide +kernel)) fun _ => ?_⟩
          refine ⟨_, rfl, p, _, 0, _, rfl, rfl, SqT.of hp, at0c _ _, rfl, _, rfl, ite2 (fun c => absurd (V.str.inj (of_decide_eq_true c)) (by decide +kernel)) fun _ => ?_⟩
          exact ⟨sm, rfl, G, hDJ, hGJ⟩
        | ended kk =>
          obtain ⟨p, vs, rfl, hp, _, _, rfl, rfl, _, _, rfl, rfl, e⟩ := ryH
          cases e
          have hp := sm _ _ hp
          refine ⟨_, rfl, p, _, 0, _, rfl, rfl, SqT.of hp, at0c _ _, rfl, _, rfl, ite2 (fun c => absurd (V.str.inj (of_decide_eq_true c)) (by decide +kernel)) fun _ => ?_⟩
          refine ⟨_, rfl, p, _, 0, _, rfl, rfl, SqT.of hp, at0c _ _, rfl, _, rfl, ite2 (fun c => absurd (V.str.inj (of_decide_eq_true c)) (by decide +kernel)) fun _ => ?_⟩
          exact ⟨sm, rfl, G, hDJ, hGJ⟩
        | tell kk =>
          obtain ⟨p, vs, rfl, hp, _, _, rfl, rfl, _, _, rfl, rfl, e⟩ := ryH
          cases e
          have hp := sm _ _ hp
          refine ⟨_, rfl, p, _, 0, _, rfl, rfl, SqT.of hp, at0c _ _, rfl, _, rfl, ite2 (fun c => absurd (V.str.inj (of_decide_eq_true c)) (by decide +kernel)) fun _ => ?_⟩
          refine ⟨_, rfl, p, _, 0, _, rfl, rfl, SqT.of hp, at0c _ _, rfl, _, rfl, ite2 (fun c => absurd (V.str.inj (of_decide_eq_true c)) (by decide +kernel)) fun _ => ?_⟩
          exact ⟨sm, rfl, G, hDJ, hGJ⟩
        | ask q n =>
          obtain ⟨p, vs, rfl, hp, _, _, rfl, rfl, _, _, rfl, rfl, _, _, rfl, rfl, e⟩ := ryH
          cases e
          have hp := sm _ _ hp
          have hb1 : 0 ≤ n ∧ n < (s.st.length : Int) := of_decide_eq_true ((Bool.and_eq_true _ _).mp hlt).1
          have hi2 : n.toNat < s.st.length := by omega
          have est : s.st[n.toNat]? = some s.st[n.toNat] := List.getElem?_eq_getElem hi2
          have hmem := List.mem_of_getElem? est
          generalize hnm : s.st[n.toNat] = nm at est hmem
          obtain ⟨z, ez⟩ := co.kn nm (kn.1 nm hmem)
          have hat : atI (s.st.map V.str) n = some (.str nm) := by
            have := wAt est
            rwa [Int.toNat_of_nonneg hb1.1] at this
          have ebk : (stepS s u (.ask q n)).cs = putK u.cs (Sum.inr nm) (V.int (z + 1)) := by
            show bumpK u.cs (s.st[n.toNat]?.getD Str.empty) = _
            rw [est, Option.getD_some]; unfold bumpK; rw [ez]
          refine ⟨_, rfl, p, _, 0, _, rfl, rfl, SqT.of hp, at0c _ _, rfl, _, rfl, ite2 (fun _ => ?_) fun c => absurd (decide_eq_true rfl) c⟩
          refine ⟨_, rfl, _, rfl, r, C, dx2, _, _, rfl, hoJ, T.cl_Standing, T.nK, fsS_keepers _ _ _, _, rfl, p, _, 2, _, rfl, rfl, SqT.of hp, at_natc _ 2 rfl, S, _, n, _, rfl, rfl, SqL.of hSJ, hat, Dc, .int z, rfl, by rw [← ez]; exact DGet.k (k := Sum.inr nm) hDJ, _, _, rfl, rfl, _, DPut.k (k := Sum.inr nm) hDJ lcs, ?_⟩
          have k5 : Kp Dc Gl J (upd J Dc (.dK (putK u.cs (Sum.inr nm) (V.int (z + 1))))) := fun b o e b1 b2 => by rw [upd_ne b1]; exact e
          have s5 : Same H (upd J Dc (.dK (putK u.cs (Sum.inr nm) (V.int (z + 1))))) := fun b o e => by rw [upd_ne (ne_of_none e hDcH)]; exact sm _ _ e
          have hG5 : (upd J Dc (.dK (putK u.cs (Sum.inr nm) (V.int (z + 1))))) Gl = some (.lst (u.gone.map V.int)) := (upd_ne nDG.symm).trans hGJ
          refine ⟨_, rfl, .inl ⟨rfl, _, SqL.of hG5⟩, Gl, _, _, rfl, rfl, hG5, Nat.lt_of_le_of_lt (by rw [List.length_map]; omega : _ ≤ 3000) (by decide), ?_⟩
          refine ⟨fun b o e => by rw [upd_ne (ne_of_none e hGlH)]; exact s5 _ _ e, rfl, (G.kp k5 (fun a z => z.2) hrN hSN hHN).kp (x := Dc) (y := Gl) (fun b o e b1 b2 => by rw [upd_ne b2]; exact e) (fun a z => z.2) hrN hSN hHN, ?_, ?_⟩
          · rw [upd_ne nDG, upd_same, ebk]
          · rw [upd_same]
            show _ = some (HO.lst ((u.gone ++ [0]).map V.int))
            rw [List.map_append]; rfl
        | go j =>
          obtain ⟨p, vs, rfl, hp, _, _, rfl, rfl, _, _, rfl, rfl, e⟩ := ryH
          cases e
          have hp := sm _ _ hp
          have hb1 : 0 ≤ j ∧ j < (s.hs.length : Int) := of_decide_eq_true hlt
          have hi2 : j.toNat < u.gone.length := by omega
          have est : u.gone[j.toNat]? = some u.gone[j.toNat] := List.getElem?_eq_getElem hi2
          generalize hnm : u.gone[j.toNat] = z at est
          have hat : atI (u.gone.map V.int) j = some (.int z) := by
            have := at_natc (u.gone.map V.int) j.toNat (v := .int z) (by rw [List.getElem?_map, est]; rfl)
            rwa [Int.toNat_of_nonneg hb1.1] at this
          have hix : ixN (u.gone.map V.int).length j = some j.toNat := by
            unfold ixN
            rw [List.length_map, if_pos hb1.1, if_pos (by omega)]
          have egs : (stepS s u (.go j)).gone = u.gone.set j.toNat (z + 1) := by
            show u.gone.set j.toNat (u.gone[j.toNat]?.getD 0 + 1) = _
            rw [est, Option.getD_some]
          refine ⟨_, rfl, p, _, 0, _, rfl, rfl, SqT.of hp, at0c _ _, rfl, _, rfl, ite2 (fun c => absurd (V.str.inj (of_decide_eq_true c)) (by decide +kernel)) fun _ => ?_⟩
          refine ⟨_, rfl, p, _, 0, _, rfl, rfl, SqT.of hp, at0c _ _, rfl, _, rfl, ite2 (fun _ => ?_) fun c => absurd (decide_eq_true rfl) c⟩
          refine ⟨_, rfl, _, rfl, p, _, 1, _, rfl, rfl, SqT.of hp, at_natc _ 1 rfl, Gl, _, j, _, rfl, rfl, SqL.of hGJ, hat, _, _, rfl, rfl, Gl, _, j, j.toNat, rfl, rfl, hGJ, hix, ?_⟩
          refine ⟨fun b o e => by rw [upd_ne (ne_of_none e hGlH)]; exact sm _ _ e, rfl, G.kp (x := Dc) (y := Gl) (fun b o e b1 b2 => by rw [upd_ne b2]; exact e) (fun a z => z.2) hrN hSN hHN, (upd_ne nDG).trans hDJ, ?_⟩
          rw [upd_same, egs, List.map_set]
      · obtain ⟨sm2, rfl, G2, hD2, hG2⟩ := hw
        obtain ⟨dx3, ho3⟩ := id G2.1
        obtain ⟨_, hS3, ⟨uh3, hH3, _⟩, _⟩ := id G2.2
        have ry2 := ryH.mono (TupK.same sm2)
        have fr : ∀ a, J2 a = none → (a ≠ S ∧ a ≠ Hs) ∧ (a ≠ Dc ∧ a ≠ Gl) := fun a e => ⟨⟨(ne_of_none hS3 e).symm, (ne_of_none hH3 e).symm⟩, (ne_of_none hD2 e).symm, (ne_of_none hG2 e).symm⟩
        refine ⟨_, rfl, r, dx3, _, rfl, ho3, fsS_no _ _ _ (by decide +kernel) (by decide +kernel) (by decide +kernel), _, rfl, _, r, dA, S, Hs, x, h.m, s, br, rfl, G2, ry2, hlt, rm.1, by omega, (rm.2 hlt).st, fr, fun J4 k4 G4 => ?_⟩
        obtain ⟨dx4, ho4⟩ := id G4.1
        have hS4 := G4.2.st
        refine ⟨_, rfl, _, rfl, r, C, dx4, _, _, rfl, ho4, T.cl_Standing, T.nK, fsS_keepers _ _ _, S, _, rfl, .inl (SqL.of hS4), _, _, rfl, ?_⟩
        have sm4 : Same H J4 := fun c o e => k4 c o (sm2 _ _ e) (ne_of_none e hS2) (ne_of_none e hH2)
        refine ⟨sm4, stepB s br, stepS s u br, some x, ?_, G4, k4 _ _ hD2 hSN.1.symm hHN.1.symm, k4 _ _ hG2 hSN.2.symm hHN.2.symm, kn.step hlt, by have := stepB_hs s br; omega, rm.2 hlt, fw', stepS_cs co, stepS_gone lg hlt, er⟩
        have em : (stepS s u br).most = max u.most (stepB s br).st.length := by cases br <;> rfl
        rw [em, List.length_map]
        show _ = [some v, some (.ref b), some (.ref r), some (.ref Dc), some (.ref Gl), some (V.int ((max u.most (stepB s br).st.length : Nat) : Int)), some x, none, none, none]
        have e2 : (if ((stepB s br).st.length : Int) > (u.most : Int) then ((stepB s br).st.length : Int) else (u.most : Int)) = ((max u.most (stepB s br).st.length : Nat) : Int) := by
          split <;> omega
        rw [e2]; rfl
    · obtain ⟨sm, s, u, o6, rfl, G, hDJ, hGJ, kn, lh, _, _, co, lg, er⟩ := q
      rw [lu, List.drop_length] at er
      have er : u = sumB h.m rs := er
      have husJ := hus.mono (TupK.same sm)
      have hbJ := sm _ _ hb
      refine ⟨_, rfl, b, rfl, ⟨_, SqL.of hbJ⟩, fun L hL => lc_it walk_list (fun i G => Same J G ∧ ∃ ul, G L = some (.lst ul) ∧ ul.length = keptN (rs.take i)) ⟨Same.new hL, [], upd_same, rfl⟩ (fun i G _ z => SqL.of (z.1 _ _ hbJ)) (fun i x G G1 hi z yy => ?_) fun G1 z => ?_⟩
      · obtain ⟨rfl, ex⟩ := yy
        obtain ⟨sG, ul, hG, ll⟩ := z
        rw [lu] at hi
        have et : rs[i]? = some rs[i] := List.getElem?_eq_getElem hi
        generalize rs[i] = br at et
        obtain ⟨y, ey, ry⟩ := Reps.get (husJ.mono (TupK.same sG)) (j := i) (d := br.d) (by rw [List.getElem?_map, et]; rfl)
        obtain rfl : y = x := by rw [ey] at ex; exact Option.some.inj ex
        obtain ⟨p, rfl, hp⟩ := BR.at ry
        have ek : keptN (rs.take (i + 1)) = keptN (rs.take i) + if isKeep br = true then 1 else 0 := by
          unfold keptN
          rw [List.take_add_one, et]
          show (List.filter isKeep (rs.take i ++ [br])).length = _
          rw [List.filter_append, List.length_append, List.filter_cons]
          split <;> rfl
        refine ⟨rfl, ?_⟩
        refine ⟨_, rfl, p, _, 0, _, rfl, rfl, SqT.of hp, at0c _ _, rfl, _, rfl, ite2 (fun c => ?_) fun c => ?_⟩
        · have hk : isKeep br = true := wd_keep (V.str.inj (of_decide_eq_true c))
          refine ⟨_, rfl, _, hG, Nat.lt_of_le_of_lt (by have : keptN (rs.take i) ≤ (rs.take i).length := List.length_filter_le _ _; rw [List.length_take] at this; omega : _ ≤ 3000) (by decide), fun b o e => ?_, ul ++ [.ref p], upd_same, ?_⟩
          · rw [upd_ne (ne_of_none e hL)]; exact sG _ _ e
          · rw [ek, if_pos hk, List.length_append, ll]; rfl
        · have hk : isKeep br = false := by
            cases br <;> first | rfl | exact absurd (decide_eq_true rfl) c
          exact ⟨sG, ul, hG, by rw [ek, if_neg (by rw [hk]; decide), ll]; rfl⟩
      obtain ⟨sG1, ul, hGL, ll⟩ := z
      rw [lu, List.take_length] at ll
      refine ⟨L, _, rfl, .inl (SqL.of hGL), ?_⟩
      rw [ll]
      have hbG := sG1 _ _ hbJ
      refine ⟨_, rfl, b, rfl, ⟨_, SqL.of hbG⟩, fun M hM => lc_it walk_list (fun i G => Same G1 G ∧ G M = some (.lst ((tolds (rs.take i)).map V.int))) ⟨Same.new hM, upd_same⟩ (fun i G _ z => SqL.of (z.1 _ _ hbG)) (fun i x G G2 hi z yy => ?_) fun G2 z => ?_⟩
      · obtain ⟨rfl, ex⟩ := yy
        obtain ⟨sG, hG⟩ := z
        rw [lu] at hi
        have et : rs[i]? = some rs[i] := List.getElem?_eq_getElem hi
        generalize rs[i] = br at et
        obtain ⟨y, ey, ry⟩ := Reps.get (husJ.mono (TupK.same (sG1.trans sG))) (j := i) (d := br.d) (by rw [List.getElem?_map, et]; rfl)
        obtain rfl : y = x := by rw [ey] at ex; exact Option.some.inj ex
        obtain ⟨p, rfl, hp⟩ := BR.at ry
        have ek : tolds (rs.take (i + 1)) = tolds (rs.take i) ++ (tellV br).toList := by
          unfold tolds
          rw [List.take_add_one, et]
          show List.filterMap tellV (rs.take i ++ [br]) = _
          rw [List.filterMap_append, List.filterMap_cons, List.filterMap_nil]
          cases tellV br <;> rfl
        refine ⟨rfl, ?_⟩
        refine ⟨_, rfl, p, _, 0, _, rfl, rfl, SqT.of hp, at0c _ _, rfl, _, rfl, ite2 (fun c => ?_) fun c => ?_⟩
        · obtain ⟨z, hz⟩ : ∃ z, br = .tell z := wd_tell (V.str.inj (of_decide_eq_true c))
          subst hz
          refine ⟨_, rfl, p, _, 1, _, rfl, rfl, SqT.of hp, at_natc _ 1 rfl, _, hG, Nat.lt_of_le_of_lt (by have : (tolds (rs.take i)).length ≤ (rs.take i).length := List.length_filterMap_le _ _; rw [List.length_take] at this; rw [List.length_map]; omega : _ ≤ 3000) (by decide), fun b o e => ?_, ?_⟩
          · rw [upd_ne (ne_of_none e hM)]; exact sG _ _ e
          · rw [upd_same, ek, List.map_append]; rfl
        · have hk : tellV br = none := by
            cases br <;> first | rfl | exact absurd (decide_eq_true rfl) c
          exact ⟨sG, by rw [ek, hk]; simpa using hG⟩
      obtain ⟨sG2, hM2⟩ := z
      rw [lu, List.take_length] at hM2
      have s12 := sG1.trans sG2
      refine ⟨_, rfl, _, rfl, _, rfl, _, rfl, _, rfl, by show 5 ≤ sizeLine; decide, fun t ht => ?_⟩
      have st := Same.new (o := .tup [V.int (keptN rs : Int), .ref Dc, .ref Gl, .ref M, V.int (u.most : Int)]) ht
      have hM0 : J M = none := sG1.free hM
      have fr : ∀ {a}, J a = none → H a = none := fun {a} e => by
        cases e' : H a with
        | none => rfl
        | some o => rw [sm _ _ e'] at e; cases e
      have ht0 : J t = none := s12.free ht
      refine k t Dc Gl M _ ((sm.trans s12).trans st) (fr ht0) hDcH hGlH (fr hM0) (ne_of_none hGJ hM0) ⟨?_, ?_, ?_, ?_⟩
      · rw [← er]; exact upd_same
      · rw [← er]; exact st _ _ (s12 _ _ hDJ)
      · rw [← er]; exact st _ _ (s12 _ _ hGJ)
      · exact st _ _ hM2
end
end Ak
namespace Ak
open PySem L2
local macro_rules | `(tactic| walk_at "no attr") => `(tactic| exact rwF_no _ _ _ (by decide +kernel) (by decide +kernel) (by decide +kernel))
/-! ### what the law says a book comes to -/
abbrev st_l_sums : Stmt := top 25
theorem sc_l_sums : FnScope ["_law_program", "_law_book_here", "_law_heard_here", "_law_stands", "_law_holds", "_law_kept", "_law_sums_here", "_law_gone", "_law_told", "_law_most", "_law_name", "_law_row_here"] ["_law_program", "_law_book_here"] (defScope st_l_sums) := ⟨rfl, rfl, rfl, by decide +kernel, rfl, by decide +kernel, by decide +kernel⟩
def goneA (u : SM) : BR → List Int | .ask _ _ => u.gone ++ [0] | _ => u.gone
theorem wd_ask : ∀ {r : BR}, r.wd = "ask" → ∃ q n, r = .ask q n
  | .keep _, h => absurd (show ("keep" : Str) = "ask" from h) (by decide +kernel)
  | .ended _, h => absurd (show ("ended" : Str) = "ask" from h) (by decide +kernel)
  | .ask q n, _ => ⟨q, n, rfl⟩
  | .go _, h => absurd (show ("go" : Str) = "ask" from h) (by decide +kernel)
  | .tell _, h => absurd (show ("tell" : Str) = "ask" from h) (by decide +kernel)
theorem wd_go : ∀ {r : BR}, r.wd = "go" → ∃ j, r = .go j
  | .keep _, h => absurd (show ("keep" : Str) = "go" from h) (by decide +kernel)
  | .ended _, h => absurd (show ("ended" : Str) = "go" from h) (by decide +kernel)
  | .ask _ _, h => absurd (show ("ask" : Str) = "go" from h) (by decide +kernel)
  | .go j, _ => ⟨j, rfl⟩
  | .tell _, h => absurd (show ("tell" : Str) = "go" from h) (by decide +kernel)
theorem nask_cs {s : BS} {u : SM} : ∀ {r : BR}, r.wd ≠ "ask" → (stepS s u r).cs = u.cs ∧ goneA u r = u.gone
  | .keep _, _ => ⟨rfl, rfl⟩
  | .ended _, _ => ⟨rfl, rfl⟩
  | .ask _ _, h => absurd rfl h
  | .go _, _ => ⟨rfl, rfl⟩
  | .tell _, _ => ⟨rfl, rfl⟩
theorem ngo_g {s : BS} {u : SM} : ∀ {r : BR}, r.wd ≠ "go" → (stepS s u r).gone = goneA u r
  | .keep _, _ => rfl
  | .ended _, _ => rfl
  | .ask _ _, _ => rfl
  | .go _, h => absurd rfl h
  | .tell _, _ => rfl
theorem ntell : ∀ {r : BR}, r.wd ≠ "tell" → tellV r = none
  | .keep _, _ => rfl
  | .ended _, _ => rfl
  | .ask _ _, _ => rfl
  | .go _, _ => rfl
  | .tell _, h => absurd rfl h
theorem keep_wd (r : BR) : (decide (V.str r.wd = V.str "keep")) = isKeep r := by
  by_cases h : r.wd = "keep"
  · rw [decide_eq_true (by rw [h]), wd_keep h]
  · rw [decide_eq_false fun z => h (by injection z)]
    cases r <;> first | rfl | exact absurd rfl h
theorem keptN_snoc (rs : List BR) (r : BR) : keptN (rs ++ [r]) = keptN rs + if isKeep r = true then 1 else 0 := by
  unfold keptN
  rw [List.filter_append, List.length_append, List.filter_cons]
  split <;> rfl
theorem tolds_snoc (rs : List BR) (r : BR) : tolds (rs ++ [r]) = tolds rs ++ (tellV r).toList := by
  unfold tolds
  rw [List.filterMap_append, List.filterMap_cons, List.filterMap_nil]
  cases tellV r <;> rfl
section
variable {P : Program} {w : World} {K : PySem.W.Frag} {mg : Str → Option Value} {base : Heap} {f1 f2 : Addr} {d1 d2 : FuncData}
theorem ok_l_sums {f : Addr} {fd : FuncData} (D : Fn K mg "_law_sums" st_l_sums ["_law_program", "_law_book_here"] f fd) (T : BltBk mg) (D_l_heard : Fn K mg "_law_heard" st_l_heard ["_law_program"] f1 d1) (G_l_heard : FnOk P w K mg base CX0 1 f1 d1 ["_law_program"] spHeard)
    (D_l_goes : Fn K mg "_law_goes" st_l_goes ["_law_heard_here", "_law_stands", "_law_holds", "_law_row_here"] f2 d2) (G_l_goes : FnOk P w K mg base CX0 1 f2 d2 ["_law_heard_here", "_law_stands", "_law_holds", "_law_row_here"] spGoes) : FnOk P w K mg base CX0 2 f fd ["_law_program", "_law_book_here"] spSums := by
  refine D.F.ok sc_l_sums (fun vs H Q E h => ?_) (fun cdv A0 outer s0 H vs Q E hr h => ?_)
  · obtain ⟨v, b, us, h, rs, rfl, _⟩ := h
    rfl
  · obtain ⟨v, b, us, h, rs, rfl, hv, ok, hb, hus, hl, room, fw, k⟩ := h
    have hu := hu_of hr
    refine ⟨_, (pss_cons (ps_par3 (i := 2) (j := 3) (l := 4) (by rfl) sc_l_sums.nd rfl rfl rfl (by decide) (by decide) (by decide) rfl rfl rfl (pa_cons (pe_call G_l_heard (hr.mono (by decide)) rfl D_l_heard.mg D_l_heard.kp D_l_heard.b .nil pass0 (pa_cons (pv 0) pa_nil)) (pa_cons (pe_lst pa_nil) (pa_cons (pe_lst pa_nil) pa_nil))) (by rfl))
      (pss_cons (ps_asg (pe_tup (pa_cons pe_int (pa_cons pe_dnewK (pa_cons (pe_lst pa_nil) (pa_cons (pe_lst pa_nil) (pa_cons pe_int pa_nil)))))) (pg_tup (by rfl) (pgs_cons (pg_name (i := 5) sc_l_sums.nd rfl (Or.inl rfl)) (pgs_cons (pg_name (i := 6) sc_l_sums.nd rfl (Or.inl rfl)) (pgs_cons (pg_name (i := 7) sc_l_sums.nd rfl (Or.inl rfl)) (pgs_cons (pg_name (i := 8) sc_l_sums.nd rfl (Or.inl rfl)) (pgs_cons (pg_name (i := 9) sc_l_sums.nd rfl (Or.inl rfl)) pgs_nil)))))))
      (pss_cons (ps_lock (ps_for PassesOwn.never rfl (pi_keys (pv 2)) (pg_name (i := 10) sc_l_sums.nd rfl (Or.inl rfl)) (pss_one (ps_dput hu (pv 6) (pv 10) pe_int rfl))))
      (pss_cons (ps_for PassesOwn.never rfl (pi_list (pv 1)) (pg_name (i := 11) sc_l_sums.nd rfl (Or.inl rfl)) (C8.pss_cut (ps_if (pt_cmpR op_eq (pe_ix ix_tup (pv 11) pe_int (fun _ _ => rfl)) pe_str (nomark _)) (pss_cons (ps_dput hu (pv 6) (pe_ix ix_list (pv 3) (pe_ix ix_tup (pv 11) pe_int (fun _ _ => rfl)) (fun _ _ => rfl)) (pe_op op_add (pe_dget hu (pv 6) (pe_ix ix_list (pv 3) (pe_ix ix_tup (pv 11) pe_int (fun _ _ => rfl)) (fun _ _ => rfl)) (fun _ _ => rfl)) pe_int) rfl)
      (pss_one (ps_expr (pe_bm PySem.F.plainAttrs_list PySem.F.slot_list_append PySem.F.type_list_append mt_append (pv 7) (pa_cons pe_int pa_nil))))) pss_nil)
      (C8.pss_cut (ps_if (pt_cmpR op_eq (pe_ix ix_tup (pv 11) pe_int (fun _ _ => rfl)) pe_str (nomark _)) (pss_one (ps_asg (pe_op op_add (pe_ix ix_list (pv 7) (pe_ix ix_tup (pv 11) pe_int (fun _ _ => rfl)) (fun _ _ => rfl)) pe_int) (pg_sub (pv 7) (pe_ix ix_tup (pv 11) pe_int (fun _ _ => rfl)) set_list))) pss_nil)
      (C8.pss_cut (ps_if (pt_cmpR op_eq (pe_ix ix_tup (pv 11) pe_int (fun _ _ => rfl)) pe_str (nomark _)) (pss_one (ps_expr (pe_bm PySem.F.plainAttrs_list PySem.F.slot_list_append PySem.F.type_list_append mt_append (pv 8) (pa_cons (pe_ix ix_tup (pv 11) pe_int (fun _ _ => rfl)) pa_nil)))) pss_nil)
      (pss_cons (ps_set (i := 5) sc_l_sums.nd rfl (Or.inl rfl) (pe_op op_add (pv 5) (pe_callTy call_int1 (by rfl) T.int (by decide +kernel) (pa_cons (pe_cmpR op_eq (pe_ix ix_tup (pv 11) pe_int (fun _ _ => rfl)) pe_str (nomark _)) pa_nil))))
      (pss_cons (ps_expr (pe_call G_l_goes (hr.mono (by decide)) rfl D_l_goes.mg D_l_goes.kp D_l_goes.b .nil pass0 (pa_cons (pv 2) (pa_cons (pv 3) (pa_cons (pv 4) (pa_cons (pv 11) pa_nil))))))
      (pss_one (ps_set (i := 9) sc_l_sums.nd rfl (Or.inl rfl) (pe_callB (call_max2 rfl) (by rfl) T.max (by decide +kernel) (pa_cons (pv 9) (pa_cons (pe_callB call_len_seq (by rfl) T.len (by decide +kernel) (pa_cons (pv 3) pa_nil)) pa_nil)))))))))))
      (pss_one (ps_ret (pe_tup (pa_cons (pv 5) (pa_cons (pv 6) (pa_cons (pv 7) (pa_cons (pv 8) (pa_cons (pv 9) pa_nil)))))))))))), ?_⟩
    refine ⟨_, rfl, v, h, rfl, hv, ok, fun dA J1 hdA HD s1 => ⟨Nat.zero_le _, fun S hS => ⟨Nat.zero_le _, fun Hs hHs => ⟨_, _, _, rfl, ?_⟩⟩⟩⟩
    have nS : S ≠ Hs := fun z => by rw [← z, upd_same] at hHs; cases hHs
    have hHs1 : J1 Hs = none := by rw [upd_ne nS.symm] at hHs; exact hHs
    have s2 : Same J1 (upd (upd J1 S (.lst [])) Hs (.lst [])) := (Same.new hS).trans (Same.new hHs)
    have aS : (upd (upd J1 S (.lst [])) Hs (.lst [])) S = some (.lst []) := (upd_ne nS).trans upd_same
    have aH : (upd (upd J1 S (.lst [])) Hs (.lst [])) Hs = some (.lst []) := upd_same
    have s12 := s1.trans s2
    have hS2 : H S = none := s1.free hS
    have hH2 : H Hs = none := s1.free hHs1
    obtain ⟨_, kvs, hD, hdr⟩ := HD
    have hD2 := s2 _ _ hD
    have hdr2 : HdR (fun a => H a = none ∧ (a ≠ S ∧ a ≠ Hs)) (upd (upd J1 S (.lst [])) Hs (.lst [])) h.m kvs := hdr.mono (fun a o x e => ⟨x, ne_of_none e hS, ne_of_none e hHs1⟩) (KpA.same s2).l
    have nDS : dA ≠ S := ne_of_none hD hS
    have nDH : dA ≠ Hs := ne_of_none hD hHs1
    generalize upd (upd J1 S (.lst [])) Hs (.lst []) = J2 at s12 aS aH hD2 hdr2 ⊢
    have lkv : kvs.length = h.m.length := hdr2.len
    have kk := hdr2.keys
    have lm : h.m.length ≤ 50 := Nat.le_trans (hdK_len _) ok.2.1
    refine fun Dc hDc => ⟨Nat.zero_le _, fun Gl hGl => ⟨Nat.zero_le _, fun Tl hTl => ⟨by show 5 ≤ sizeLine; decide, fun t0 ht0 => ⟨t0, _, rfl, SqT.of upd_same, rfl, _, _, rfl, _, _, rfl, _, _, rfl, _, _, rfl, _, _, rfl, rfl, ?_⟩⟩⟩⟩
    have sT := Same.new (o := .tup [V.int 0, .ref Dc, .ref Gl, .ref Tl, V.int 0]) ht0
    have sTl := Same.new (o := .lst []) hTl
    have sGl := Same.new (o := .lst []) hGl
    have sDc := Same.new (o := .dK []) hDc
    have aT := sT _ _ (upd_same (H := upd (upd J2 Dc (.dK [])) Gl (.lst [])) (a := Tl) (o := .lst []))
    have aG := sT _ _ (sTl _ _ (upd_same (H := upd J2 Dc (.dK [])) (a := Gl) (o := .lst [])))
    have aD := sT _ _ (sTl _ _ (sGl _ _ (upd_same (H := J2) (a := Dc) (o := .dK []))))
    have nGT : Gl ≠ Tl := ne_of_none (upd_same (H := upd J2 Dc (.dK [])) (a := Gl) (o := .lst [])) hTl
    have nDG : Dc ≠ Gl := ne_of_none (upd_same (H := J2) (a := Dc) (o := .dK [])) hGl
    have nDT : Dc ≠ Tl := ne_of_none (sGl _ _ (upd_same (H := J2) (a := Dc) (o := .dK []))) hTl
    have hGl2 : J2 Gl = none := sDc.free hGl
    have hTl2 : J2 Tl = none := (sDc.trans sGl).free hTl
    have s3 := ((sDc.trans sGl).trans sTl).trans sT
    generalize upd (upd (upd (upd J2 Dc (.dK [])) Gl (.lst [])) Tl (.lst [])) t0 _ = J3 at s3 aT aG aD ⊢
    have hD3 := s3 _ _ hD2
    have nAD : dA ≠ Dc := ne_of_none hD2 hDc
    -- zeros
    refine ⟨dA, .dK kvs, hD3, trivial, fun od => ⟨_, rfl, dA, od, rfl, .inl ⟨kvs, upd_same, for_it walk_keys (fun i σ J => J dA = some (.frz od (.dK kvs)) ∧ (∀ b o, J3 b = some o → b ≠ dA → b ≠ Dc → J b = some o) ∧ J Dc = some (.dK (zeroN ((h.m.map (·.1)).take i))) ∧ ∃ o10, σ = [some v, some (.ref b), some (.ref dA), some (.ref S), some (.ref Hs), some (.int 0), some (.ref Dc), some (.ref Gl), some (.ref Tl), some (.int 0), o10, none])
      ⟨upd_same, fun b o e n _ => (upd_ne n).trans e, (upd_ne nAD.symm).trans aD, _, rfl⟩ (fun i σ J _ q => q.1) (fun i x σ J J' hi q y => ?_) fun σ J q => ?_⟩⟩⟩
    · obtain ⟨q1, q2, q3, o10, rfl⟩ := q
      obtain ⟨rfl, ky, vy, ek, rfl⟩ := y
      have hi' : i < (h.m.map (·.1)).length := by rw [List.length_map]; omega
      have et : (h.m.map (·.1))[i]? = some (h.m.map (·.1))[i] := List.getElem?_eq_getElem hi'
      generalize (h.m.map (·.1))[i] = nm at et
      obtain rfl : ky = Sum.inr nm := by
        have e1 : (kvs.map (·.1))[i]? = some ky := by rw [List.getElem?_map, ek]; rfl
        rw [kk, List.getElem?_map, et] at e1
        exact (Option.some.inj e1).symm
      refine ⟨_, rfl, _, rfl, Dc, _, rfl, DPut.k (k := Sum.inr nm) q3 (Nat.lt_of_le_of_lt (Nat.le_trans (zeroN_len _) (by rw [List.length_take, List.length_map]; omega) : _ ≤ 50) (by decide)), ?_, fun b o e n1 n2 => ?_, ?_, _, rfl⟩
      · rw [upd_ne nAD]; exact q1
      · rw [upd_ne n2]; exact q2 b o e n1 n2
      · rw [upd_same, List.take_add_one, et]
        exact congrArg (fun z => some (HO.dK z)) (zeroN_snoc _ _).symm
    obtain ⟨q1, q2, q3, o10, rfl⟩ := q
    refine ⟨q1, ?_⟩
    rw [show kvs.length = (h.m.map (·.1)).length by rw [List.length_map, lkv], List.take_length] at q3
    have k4 : Kp Dc Dc J3 (upd J dA (.dK kvs)) := fun b o e n _ => by
      by_cases z : b = dA
      · rw [z, upd_same]; rw [z, hD3] at e; exact e
      · rw [upd_ne z]; exact q2 b o e z n
    have aD4 : (upd J dA (.dK kvs)) Dc = some (.dK (zeroK h.m)) := (upd_ne nAD.symm).trans q3
    generalize upd J dA (.dK kvs) = J4 at k4 aD4 ⊢
    have k24 : ∀ b o, J2 b = some o → J4 b = some o := fun b o e => k4 b o (s3 _ _ e) (ne_of_none e hDc) (ne_of_none e hDc)
    have G4 : GoAt (fun a => (a ≠ S ∧ a ≠ Hs) ∧ (a ≠ Dc ∧ a ≠ Gl ∧ a ≠ Tl)) J4 dA S Hs h.m ⟨[], []⟩ :=
      ⟨⟨⟨⟨nDS, nDH⟩, nAD, ne_of_none hD2 hGl2, ne_of_none hD2 hTl2⟩, kvs, k24 _ _ hD2, hdr2.mono (fun a o x e => ⟨x.2, ne_of_none e hDc, ne_of_none e hGl2, ne_of_none e hTl2⟩) fun a xs _ e => k24 _ _ e⟩, k24 _ _ aS, ⟨[], k24 _ _ aH, rfl⟩, fun z => z.1.1 rfl, fun z => z.1.2 rfl, nS⟩
    have hSN : (S ≠ Dc ∧ S ≠ Gl) ∧ S ≠ Tl := ⟨⟨ne_of_none aS hDc, ne_of_none aS hGl2⟩, ne_of_none aS hTl2⟩
    have hHN : (Hs ≠ Dc ∧ Hs ≠ Gl) ∧ Hs ≠ Tl := ⟨⟨ne_of_none aH hDc, ne_of_none aH hGl2⟩, ne_of_none aH hTl2⟩
    have s14 : Same H J4 := fun b o e => k24 b o (s12 _ _ e)
    have fr0 : ∀ {a}, J2 a = none → H a = none := fun {a} e => s12.free e
    have hDcH := fr0 hDc
    have hGlH := fr0 hGl2
    have hTlH := fr0 hTl2
    have aG4 : J4 Gl = some (.lst []) := k4 _ _ aG nDG.symm nDG.symm
    have aT4 : J4 Tl = some (.lst []) := k4 _ _ aT nDT.symm nDT.symm
    have lu := Reps.len hus
    rw [List.length_map] at lu
    clear q1 q2 q3 k4 s3 sT sTl sGl sDc
    refine ⟨_, rfl, b, rfl, ⟨_, SqL.of (s14 _ _ hb)⟩, for_list (xs := us) (fun i σ J => Same H J ∧ ∃ (s : BS) (u : SM) (o10 o11 : Option V), σ = [some v, some (.ref b), some (.ref dA), some (.ref S), some (.ref Hs), some (.int (keptN (rs.take i) : Int)), some (.ref Dc), some (.ref Gl), some (.ref Tl), some (.int (u.most : Int)), o10, o11] ∧ GoAt (fun a => (a ≠ S ∧ a ≠ Hs) ∧ (a ≠ Dc ∧ a ≠ Gl ∧ a ≠ Tl)) J dA S Hs h.m s ∧ J Dc = some (.dK u.cs) ∧ J Gl = some (.lst (u.gone.map V.int)) ∧ J Tl = some (.lst ((tolds (rs.take i)).map V.int)) ∧ KnS h.m s ∧ s.hs.length ≤ i ∧ RoomW h.m s (rs.drop i) ∧ firstW h.m s (rs.drop i) i = none ∧ CsOk h.m u.cs ∧ u.gone.length = s.hs.length ∧ runS s u (rs.drop i) = sumB h.m rs)
      ⟨s14, ⟨[], []⟩, ⟨zeroK h.m, [], 0⟩, _, _, rfl, G4, aD4, aG4, aT4, KnS.nil _, Nat.le_refl _, room, fw, zero_ok _, rfl, rfl⟩ (fun i σ J _ q => SqL.of (q.1 _ _ hb)) (fun i x σ J hx q => ?_) fun σ J q => ?_⟩
    · obtain ⟨sm, s, u, o10, o11, rfl, G, hDJ, hGJ, hTJ, kn, lh, rm, fw, co, lg, er⟩ := q
      have hi : i < rs.length := by have := (List.getElem?_eq_some_iff.mp hx).1; omega
      have et : rs[i]? = some rs[i] := List.getElem?_eq_getElem hi
      have ed : rs.drop i = rs[i] :: rs.drop (i + 1) := List.drop_eq_getElem_cons hi
      have ek : rs.take (i + 1) = rs.take i ++ [rs[i]] := by rw [List.take_add_one, et]; rfl
      generalize rs[i] = br at et ed ek
      rw [ed] at rm fw er
      obtain ⟨p, rfl, hpH, ryH⟩ : ∃ p, x = .ref p ∧ H p = some (.tup (.str br.wd :: br.ab :: br.rs)) ∧ Rep H br.d (.ref p) := by
        obtain ⟨y, ey, ry⟩ := Reps.get hus (j := i) (d := br.d) (by rw [List.getElem?_map, et]; rfl)
        obtain rfl : y = x := by rw [ey] at hx; exact Option.some.inj hx
        obtain ⟨p, rfl, hp⟩ := BR.at ry
        exact ⟨p, rfl, hp, ry⟩
      have fw' : (if letsB h.m s br = true then firstW h.m (stepB s br) (rs.drop (i + 1)) (i + 1) else some i) = none := fw
      have hlt : letsB h.m s br = true := by
        cases e : letsB h.m s br with
        | true => rfl
        | false => rw [e] at fw'; cases fw'
      rw [if_pos hlt] at fw'
      have lcs : u.cs.length < sizeLine := Nat.lt_of_le_of_lt (Nat.le_trans co.ln lm) (by decide)
      have lt3 : (tolds (rs.take i)).length ≤ 3000 := by
        have : (tolds (rs.take i)).length ≤ (rs.take i).length := List.length_filterMap_le _ _
        rw [List.length_take] at this; omega
      have mk1 : ∀ {J J' : Hp} {x : Addr}, (x = Dc ∨ x = Gl ∨ x = Tl) → Kp x x J J' → GoAt (fun a => (a ≠ S ∧ a ≠ Hs) ∧ (a ≠ Dc ∧ a ≠ Gl ∧ a ≠ Tl)) J dA S Hs h.m s → GoAt (fun a => (a ≠ S ∧ a ≠ Hs) ∧ (a ≠ Dc ∧ a ≠ Gl ∧ a ≠ Tl)) J' dA S Hs h.m s := fun {J J' x} hxx kx g => by
        rcases hxx with rfl | rfl | rfl
        · exact g.kp kx (fun a z => ⟨z.2.1, z.2.1⟩) ⟨hSN.1.1, hSN.1.1⟩ ⟨hHN.1.1, hHN.1.1⟩
        · exact g.kp kx (fun a z => ⟨z.2.2.1, z.2.2.1⟩) ⟨hSN.1.2, hSN.1.2⟩ ⟨hHN.1.2, hHN.1.2⟩
        · exact g.kp kx (fun a z => ⟨z.2.2.2, z.2.2.2⟩) ⟨hSN.2, hSN.2⟩ ⟨hHN.2, hHN.2⟩
      have kpu : ∀ {J : Hp} {x : Addr} {o : HO}, Kp x x J (upd J x o) := fun {J x o} b e z n _ => by rw [upd_ne n]; exact z
      refine ⟨fun σ J2 => Same H J2 ∧ σ = [some v, some (.ref b), some (.ref dA), some (.ref S), some (.ref Hs), some (.int (keptN (rs.take i) : Int)), some (.ref Dc), some (.ref Gl), some (.ref Tl), some (.int (u.most : Int)), o10, some (.ref p)] ∧ GoAt (fun a => (a ≠ S ∧ a ≠ Hs) ∧ (a ≠ Dc ∧ a ≠ Gl ∧ a ≠ Tl)) J2 dA S Hs h.m s ∧ J2 Dc = some (.dK (stepS s u br).cs) ∧ J2 Gl = some (.lst ((goneA u br).map V.int)) ∧ J2 Tl = some (.lst ((tolds (rs.take i)).map V.int)), ?_, fun σ J2 hw => ?_⟩
      · refine ⟨_, rfl, p, _, 0, _, rfl, rfl, SqT.of (sm _ _ hpH), at0c _ _, rfl, _, rfl, ite2 (fun c => ?_) fun c => ?_⟩
        · obtain ⟨q, n, rfl⟩ := wd_ask (V.str.inj (of_decide_eq_true c))
          have hp := sm _ _ hpH
          have hSJ := G.st
          have hb1 : 0 ≤ n ∧ n < (s.st.length : Int) := of_decide_eq_true ((Bool.and_eq_true _ _).mp hlt).1
          have hi2 : n.toNat < s.st.length := by omega
          have est : s.st[n.toNat]? = some s.st[n.toNat] := List.getElem?_eq_getElem hi2
          have hmem := List.mem_of_getElem? est
          generalize s.st[n.toNat] = nm at est hmem
          obtain ⟨z, ez⟩ := co.kn nm (kn.1 nm hmem)
          have hat : atI (s.st.map V.str) n = some (.str nm) := by
            have := wAt est
            rwa [Int.toNat_of_nonneg hb1.1] at this
          have ebk : (stepS s u (.ask q n)).cs = putK u.cs (Sum.inr nm) (V.int (z + 1)) := by
            show bumpK u.cs (s.st[n.toNat]?.getD Str.empty) = _
            rw [est, Option.getD_some]; unfold bumpK; rw [ez]
          refine ⟨_, rfl, _, rfl, _, rfl, p, _, 2, _, rfl, rfl, SqT.of hp, at_natc _ 2 rfl, S, _, n, _, rfl, rfl, SqL.of hSJ, hat, Dc, _, rfl, by rw [← ez]; exact DGet.k (k := Sum.inr nm) hDJ, _, _, rfl, rfl, _, rfl, _, rfl, _, rfl, p, _, 2, _, rfl, rfl, SqT.of hp, at_natc _ 2 rfl, S, _, n, _, rfl, rfl, SqL.of hSJ, hat, Dc, _, rfl, DPut.k (k := Sum.inr nm) hDJ lcs, ?_⟩
          have hG5 : (upd J Dc (.dK (putK u.cs (Sum.inr nm) (V.int (z + 1))))) Gl = some (.lst (u.gone.map V.int)) := (upd_ne nDG.symm).trans hGJ
          refine ⟨_, rfl, .inl ⟨rfl, _, SqL.of hG5⟩, Gl, _, _, rfl, rfl, hG5, Nat.lt_of_le_of_lt (by rw [List.length_map]; omega : _ ≤ 3000) (by decide), ?_⟩
          refine ⟨fun b o e => by rw [upd_ne (ne_of_none e hGlH), upd_ne (ne_of_none e hDcH)]; exact sm _ _ e, rfl, mk1 (.inr (.inl rfl)) kpu (mk1 (.inl rfl) kpu G), ?_, ?_, ?_⟩
          · rw [upd_ne nDG, upd_same, ebk]
          · rw [upd_same]
            show _ = some (HO.lst ((u.gone ++ [0]).map V.int))
            rw [List.map_append]; rfl
          · rw [upd_ne nGT.symm, upd_ne nDT.symm]; exact hTJ
        · have hn : br.wd ≠ "ask" := fun z => c (by rw [z]; exact decide_eq_true rfl)
          exact ⟨sm, rfl, G, by rw [(nask_cs hn).1]; exact hDJ, by rw [(nask_cs (s := s) hn).2]; exact hGJ, hTJ⟩
      · obtain ⟨sm2, rfl, G2, hD2, hG2, hT2⟩ := hw
        refine ⟨fun σ J3 => Same H J3 ∧ σ = [some v, some (.ref b), some (.ref dA), some (.ref S), some (.ref Hs), some (.int (keptN (rs.take i) : Int)), some (.ref Dc), some (.ref Gl), some (.ref Tl), some (.int (u.most : Int)), o10, some (.ref p)] ∧ GoAt (fun a => (a ≠ S ∧ a ≠ Hs) ∧ (a ≠ Dc ∧ a ≠ Gl ∧ a ≠ Tl)) J3 dA S Hs h.m s ∧ J3 Dc = some (.dK (stepS s u br).cs) ∧ J3 Gl = some (.lst ((stepS s u br).gone.map V.int)) ∧ J3 Tl = some (.lst ((tolds (rs.take i)).map V.int)), ?_, fun σ J3 hw => ?_⟩
        · refine ⟨_, rfl, p, _, 0, _, rfl, rfl, SqT.of (sm2 _ _ hpH), at0c _ _, rfl, _, rfl, ite2 (fun c => ?_) fun c => ?_⟩
          · obtain ⟨j, rfl⟩ := wd_go (V.str.inj (of_decide_eq_true c))
            have hp := sm2 _ _ hpH
            have hb1 : 0 ≤ j ∧ j < (s.hs.length : Int) := of_decide_eq_true hlt
            have hi2 : j.toNat < u.gone.length := by omega
            have est : u.gone[j.toNat]? = some u.gone[j.toNat] := List.getElem?_eq_getElem hi2
            generalize u.gone[j.toNat] = z at est
            have hat : atI (u.gone.map V.int) j = some (.int z) := by
              have := at_natc (u.gone.map V.int) j.toNat (v := .int z) (by rw [List.getElem?_map, est]; rfl)
              rwa [Int.toNat_of_nonneg hb1.1] at this
            have hix : ixN (u.gone.map V.int).length j = some j.toNat := by
              unfold ixN
              rw [List.length_map, if_pos hb1.1, if_pos (by omega)]
            have egs : (stepS s u (.go j)).gone = u.gone.set j.toNat (z + 1) := by
              show u.gone.set j.toNat (u.gone[j.toNat]?.getD 0 + 1) = _
              rw [est, Option.getD_some]
            have hG2 : J2 Gl = some (.lst (u.gone.map V.int)) := hG2
            refine ⟨_, rfl, _, rfl, p, _, 1, _, rfl, rfl, SqT.of hp, at_natc _ 1 rfl, Gl, _, j, _, rfl, rfl, SqL.of hG2, hat, _, _, rfl, rfl, _, rfl, _, rfl, p, _, 1, _, rfl, rfl, SqT.of hp, at_natc _ 1 rfl, Gl, _, j, j.toNat, rfl, rfl, hG2, hix, ?_⟩
            refine ⟨fun b o e => by rw [upd_ne (ne_of_none e hGlH)]; exact sm2 _ _ e, rfl, mk1 (.inr (.inl rfl)) kpu G2, (upd_ne nDG).trans hD2, ?_, (upd_ne nGT.symm).trans hT2⟩
            rw [upd_same, egs, List.map_set]
          · have hn : br.wd ≠ "go" := fun z => c (by rw [z]; exact decide_eq_true rfl)
            exact ⟨sm2, rfl, G2, hD2, by rw [ngo_g hn]; exact hG2, hT2⟩
        · obtain ⟨sm3, rfl, G3, hD3, hG3, hT3⟩ := hw
          refine ⟨fun σ J4 => Same H J4 ∧ σ = [some v, some (.ref b), some (.ref dA), some (.ref S), some (.ref Hs), some (.int (keptN (rs.take i) : Int)), some (.ref Dc), some (.ref Gl), some (.ref Tl), some (.int (u.most : Int)), o10, some (.ref p)] ∧ GoAt (fun a => (a ≠ S ∧ a ≠ Hs) ∧ (a ≠ Dc ∧ a ≠ Gl ∧ a ≠ Tl)) J4 dA S Hs h.m s ∧ J4 Dc = some (.dK (stepS s u br).cs) ∧ J4 Gl = some (.lst ((stepS s u br).gone.map V.int)) ∧ J4 Tl = some (.lst ((tolds (rs.take (i + 1))).map V.int)), ?_, fun σ J4 hw => ?_⟩
          · refine ⟨_, rfl, p, _, 0, _, rfl, rfl, SqT.of (sm3 _ _ hpH), at0c _ _, rfl, _, rfl, ite2 (fun c => ?_) fun c => ?_⟩
            · obtain ⟨z, rfl⟩ := wd_tell (V.str.inj (of_decide_eq_true c))
              refine ⟨_, rfl, .inl ⟨rfl, _, SqL.of hT3⟩, _, rfl, p, _, 1, _, rfl, rfl, SqT.of (sm3 _ _ hpH), at_natc _ 1 rfl, Tl, _, _, rfl, rfl, hT3, Nat.lt_of_le_of_lt (by rw [List.length_map]; omega : _ ≤ 3000) (by decide), ?_⟩
              refine ⟨fun b o e => by rw [upd_ne (ne_of_none e hTlH)]; exact sm3 _ _ e, rfl, mk1 (.inr (.inr rfl)) kpu G3, (upd_ne nDT).trans hD3, (upd_ne nGT).trans hG3, ?_⟩
              rw [upd_same, ek, tolds_snoc, List.map_append]; rfl
            · have hn : br.wd ≠ "tell" := fun z => c (by rw [z]; exact decide_eq_true rfl)
              exact ⟨sm3, rfl, G3, hD3, hG3, by rw [ek, tolds_snoc, ntell hn]; simpa using hT3⟩
          · obtain ⟨sm4, rfl, G4, hD4, hG4, hT4⟩ := hw
            refine ⟨_, rfl, _, rfl, p, _, 0, _, rfl, rfl, SqT.of (sm4 _ _ hpH), at0c _ _, rfl, .inr ⟨_, rfl, _, _, rfl, rfl, ?_⟩⟩
            have fr : ∀ a, J4 a = none → (a ≠ S ∧ a ≠ Hs) ∧ (a ≠ Dc ∧ a ≠ Gl ∧ a ≠ Tl) := fun a e => by
              obtain ⟨uh, hH, _⟩ := G4.hs
              exact ⟨⟨(ne_of_none G4.st e).symm, (ne_of_none hH e).symm⟩, (ne_of_none hD4 e).symm, (ne_of_none hG4 e).symm, (ne_of_none hT4 e).symm⟩
            refine ⟨_, rfl, _, rfl, _, rfl, _, rfl, _, dA, S, Hs, .ref p, h.m, s, br, rfl, G4, ryH.mono (TupK.same sm4), kn, rm.1, by omega, fun hl => (rm.2 hl).st, fr, fun J5 k5 g5 => ?_⟩
            have G5 := g5 hlt
            have sm5 : Same H J5 := fun c o e => k5 c o (sm4 _ _ e) (ne_of_none e hS2) (ne_of_none e hH2)
            refine ⟨_, rfl, _, rfl, S, _, rfl, .inl (SqL.of G5.st), _, _, rfl, ?_⟩
            refine ⟨sm5, stepB s br, stepS s u br, o10, some (.ref p), ?_, G5, k5 _ _ hD4 hSN.1.1.symm hHN.1.1.symm, k5 _ _ hG4 hSN.1.2.symm hHN.1.2.symm, k5 _ _ hT4 hSN.2.symm hHN.2.symm, kn.step hlt, by have := stepB_hs s br; omega, rm.2 hlt, fw', stepS_cs co, stepS_gone lg hlt, er⟩
            have em : (stepS s u br).most = max u.most (stepB s br).st.length := by cases br <;> rfl
            have e2 : (if ((stepB s br).st.length : Int) > (u.most : Int) then ((stepB s br).st.length : Int) else (u.most : Int)) = ((max u.most (stepB s br).st.length : Nat) : Int) := by
              split <;> omega
            have e3 : (keptN (rs.take i) : Int) + (if decide (V.str br.wd = V.str "keep") = true then 1 else 0) = ((keptN (rs.take (i + 1)) : Nat) : Int) := by
              rw [keep_wd, ek, keptN_snoc]
              split <;> omega
            rw [em, List.length_map, ← e3, ← e2]; rfl
    · obtain ⟨sm, s, u, o10, o11, rfl, G, hDJ, hGJ, hTJ, kn, lh, _, _, co, lg, er⟩ := q
      rw [lu, List.drop_length] at er
      have er : u = sumB h.m rs := er
      rw [lu, List.take_length] at hTJ
      refine ⟨_, rfl, _, rfl, _, rfl, _, rfl, _, rfl, by show 5 ≤ sizeLine; decide, fun t ht => ?_⟩
      have st := Same.new (o := .tup [V.int (keptN (rs.take us.length) : Int), .ref Dc, .ref Gl, .ref Tl, V.int (u.most : Int)]) ht
      have ht0 : H t = none := sm.free ht
      refine k t Dc Gl Tl _ (sm.trans st) ht0 hDcH hGlH hTlH nGT ⟨?_, ?_, ?_, ?_⟩
      · rw [← er]
        have : keptN (rs.take us.length) = keptN rs := by rw [lu, List.take_length]
        rw [← this]
        exact upd_same
      · rw [← er]; exact st _ _ hDJ
      · rw [← er]; exact st _ _ hGJ
      · exact st _ _ hTJ
end
end Ak
namespace Ak
open PySem L2
local macro_rules | `(tactic| walk_at "no attr") => `(tactic| exact rwF_no _ _ _ (by decide +kernel) (by decide +kernel) (by decide +kernel))
/-! ### a sum held against the law's own -/
abbrev st_l_whole : Stmt := top 26
theorem sc_l_whole : FnScope ["_law_number"] ["_law_number"] (defScope st_l_whole) := ⟨rfl, rfl, rfl, by decide +kernel, rfl, by decide +kernel, by decide +kernel⟩
abbrev st_l_summed_right : Stmt := top 27
theorem sc_l_summed_right : FnScope ["_law_program", "_law_book_here", "_law_handed", "_law_found", "_law_kept", "_law_sums_here", "_law_gone", "_law_told", "_law_most", "_law_good", "_law_one"] ["_law_program", "_law_book_here"] (defScope st_l_summed_right) := ⟨rfl, rfl, rfl, by decide +kernel, rfl, by decide +kernel, by decide +kernel⟩
structure BltWh (K : PySem.W.Frag) (mg : Str → Option Value) : Prop where
  isinstance : mg "isinstance" = none
  int : mg "int" = none
  bool : mg "bool" = none
  list : mg "list" = none
  dict : mg "dict" = none
  tuple : mg "tuple" = none
  all : mg "all" = none
  kII : PySem.W.kitOne K (.type "int") (.type "int") = some true
  kIB : PySem.W.kitOne K (.type "int") (.type "bool") = some false
  kTT : PySem.W.kitOne K (.type "tuple") (.type "tuple") = some true
  kLL : PySem.W.kitOne K (.type "list") (.type "list") = some true
  kDD : PySem.W.kitOne K (.type "dict") (.type "dict") = some true
def spWhole : Sp := fun vs H Q _ => ∃ n : Int, vs = [.int n] ∧ Q (.bl true) H
def spRight : Sp := fun vs H Q _ => ∃ (v : V) (b : Addr) (us : List V) (h : Hou) (rs : List BR), vs = [v, .ref b] ∧ Rep H h.d v ∧ h.Ok ∧ H b = some (.lst us) ∧ Reps H (rs.map BR.d) us ∧ rs.length ≤ 3000 ∧ RoomW h.m ⟨[], []⟩ rs ∧ firstW h.m ⟨[], []⟩ rs 0 = none ∧ ∀ H', Same H H' → Q (.bl true) H'
theorem runS_cs {m : HM} : ∀ (rs : List BR) (s : BS) (u : SM), CsOk m u.cs → CsOk m (runS s u rs).cs
  | [], _, _, h => h
  | _ :: rs, _, _, h => runS_cs rs _ _ (stepS_cs h)
theorem sumB_cs (m : HM) (rs : List BR) : CsOk m (sumB m rs).cs := runS_cs rs _ _ (zero_ok m)
theorem runS_gone : ∀ (rs : List BR) (s : BS) (u : SM), (runS s u rs).gone.length ≤ u.gone.length + rs.length
  | [], _, _ => Nat.le_refl _
  | r :: rs, s, u => by
    have h := runS_gone rs (stepB s r) (stepS s u r)
    have g : (stepS s u r).gone.length ≤ u.gone.length + 1 := by cases r <;> simp [stepS]
    rw [List.length_cons]
    exact Nat.le_trans h (by omega)
theorem pair_ints {K : PySem.W.Frag} {H : Hp} : ∀ l : List Int, Paired (EqV K H 1) (l.map V.int) (l.map V.int)
  | [] => .nil
  | _ :: r => .cons (.inl ⟨rfl, rfl⟩) (pair_ints r)
theorem sum_eq {K : PySem.W.Frag} {H : Hp} {t dC gL tL t2 dC2 gL2 tL2 : Addr} {m : HM} {rs : List BR} (a : SumAt H t dC gL tL m rs) (b : SumAt H t2 dC2 gL2 tL2 m rs) :
    Paired (EqV K H 2) [.int (keptN rs : Int), .ref dC, .ref gL, .ref tL, .int ((sumB m rs).most : Int)] [.int (keptN rs : Int), .ref dC2, .ref gL2, .ref tL2, .int ((sumB m rs).most : Int)] := by
  have co := sumB_cs m rs
  refine .cons (.inl ⟨rfl, rfl⟩) (.cons (.inr (.inr (.inr ⟨dC, dC2, _, _, rfl, rfl, a.2.1, b.2.1, rfl, fun p hp => ⟨p.2, valV_memN co.nd p hp, ?_⟩⟩))) (.cons (.inr (.inr (.inl ⟨gL, gL2, _, _, rfl, rfl, SqL.of a.2.2.1, SqL.of b.2.2.1, pair_ints _⟩))) (.cons (.inr (.inr (.inl ⟨tL, tL2, _, _, rfl, rfl, SqL.of a.2.2.2, SqL.of b.2.2.2, pair_ints _⟩))) (.cons (.inl ⟨rfl, rfl⟩) .nil))))
  obtain ⟨n, e⟩ := co.iv p hp
  rw [e]; exact .inl ⟨rfl, rfl⟩
theorem SumAt.same {H H' : Hp} {t dC gL tL : Addr} {m : HM} {rs : List BR} (a : SumAt H t dC gL tL m rs) (k : Same H H') : SumAt H' t dC gL tL m rs := ⟨k _ _ a.1, k _ _ a.2.1, k _ _ a.2.2.1, k _ _ a.2.2.2⟩
section
variable {P : Program} {w : World} {K : PySem.W.Frag} {mg : Str → Option Value} {base : Heap} {f1 f2 f3 : Addr} {d1 d2 d3 : FuncData}
theorem ok_l_whole {f : Addr} {fd : FuncData} (D : Fn K mg "_law_whole" st_l_whole ["_law_number"] f fd) (T : BltWh K mg) : FnOk P w K mg base CX0 1 f fd ["_law_number"] spWhole := by
  refine D.F.ok sc_l_whole (fun vs H Q E h => ?_) (fun cdv A0 outer s0 H vs Q E hr h => ?_)
  · obtain ⟨n, rfl, _⟩ := h
    rfl
  · obtain ⟨n, rfl, k⟩ := h
    refine ⟨_, (pss_one (ps_ret (pe_and (pe_callB call_isi (by rfl) T.isinstance (by decide +kernel) (pa_cons (pv 0) (pa_cons (pe_bltn (v := .ty "int") (u := .type "int") (by rfl) T.int (by decide +kernel) rfl) pa_nil))) (pe_one (pe_not (pe_callB call_isi (by rfl) T.isinstance (by decide +kernel) (pa_cons (pv 0) (pa_cons (pe_bltn (v := .ty "bool") (u := .type "bool") (by rfl) T.bool (by decide +kernel) rfl) pa_nil)))))))), ?_⟩
    exact ⟨_, rfl, _, _, _, _, true, rfl, .ty "int", .base (.int n), T.kII, _, rfl, iteT ⟨_, rfl, _, _, _, _, false, rfl, .ty "bool", .base (.int n), T.kIB, _, rfl, k⟩⟩
theorem ok_l_right {f : Addr} {fd : FuncData} (D : Fn K mg "_law_summed_right" st_l_summed_right ["_law_program", "_law_book_here"] f fd) (T : BltWh K mg) (D_summed : Fn K mg "summed" st_summed ["program", "book"] f1 d1) (G_summed : FnOk P w K mg base CX0 5 f1 d1 ["program", "book"] spSums)
    (D_l_sums : Fn K mg "_law_sums" st_l_sums ["_law_program", "_law_book_here"] f2 d2) (G_l_sums : FnOk P w K mg base CX0 2 f2 d2 ["_law_program", "_law_book_here"] spSums) (D_l_whole : Fn K mg "_law_whole" st_l_whole ["_law_number"] f3 d3) (G_l_whole : FnOk P w K mg base CX0 1 f3 d3 ["_law_number"] spWhole) : FnOk P w K mg base CX0 6 f fd ["_law_program", "_law_book_here"] spRight := by
  refine D.F.ok sc_l_summed_right (fun vs H Q E h => ?_) (fun cdv A0 outer s0 H vs Q E hr h => ?_)
  · obtain ⟨v, b, us, h, rs, rfl, _⟩ := h
    rfl
  · obtain ⟨v, b, us, h, rs, rfl, hv, ok, hb, hus, hl, room, fw, k⟩ := h
    have hu := hu_of hr
    refine ⟨_, (pss_cons (ps_set (i := 2) sc_l_summed_right.nd rfl (Or.inl rfl) (pe_callTy call_list_of (by rfl) T.list (by decide +kernel) (pa_cons (pv 1) pa_nil)))
      (pss_cons (ps_set (i := 3) sc_l_summed_right.nd rfl (Or.inl rfl) (pe_call G_summed (hr.mono (by decide)) rfl D_summed.mg D_summed.kp D_summed.b .nil pass0 (pa_cons (pv 0) (pa_cons (pv 2) pa_nil))))
      (pss_cons (ps_if (PW.pt (pw_or (pt_not (pt_val (pe_callB call_isi (by rfl) T.isinstance (by decide +kernel) (pa_cons (pv 3) (pa_cons (pe_bltn (v := .ty "tuple") (u := .type "tuple") (by rfl) T.tuple (by decide +kernel) rfl) pa_nil))))) (pw_or (pt_cmpR (Ak.op_neTup hr.units) (pv 3) (pe_call G_l_sums (hr.mono (by decide)) rfl D_l_sums.mg D_l_sums.kp D_l_sums.b .nil pass0 (pa_cons (pv 0) (pa_cons (pv 1) pa_nil))) (by rfl)) (pw_or1 (pt_cmpR (Ak.op_neRefs hr.units) (pv 2) (pv 1) (by rfl)))))) (pss_one (ps_ret pe_bl)) pss_nil)
      (pss_cons (ps_asg (pv 3) (pg_tup (by rfl) (pgs_cons (pg_name (i := 4) sc_l_summed_right.nd rfl (Or.inl rfl)) (pgs_cons (pg_name (i := 5) sc_l_summed_right.nd rfl (Or.inl rfl)) (pgs_cons (pg_name (i := 6) sc_l_summed_right.nd rfl (Or.inl rfl)) (pgs_cons (pg_name (i := 7) sc_l_summed_right.nd rfl (Or.inl rfl)) (pgs_cons (pg_name (i := 8) sc_l_summed_right.nd rfl (Or.inl rfl)) pgs_nil)))))))
      (pss_cons (ps_if (PW.pt (pw_or (pt_not (pt_val (pe_callB call_isi (by rfl) T.isinstance (by decide +kernel) (pa_cons (pv 5) (pa_cons (pe_bltn (v := .ty "dict") (u := .type "dict") (by rfl) T.dict (by decide +kernel) rfl) pa_nil))))) (pw_or (pt_not (pt_val (pe_callB call_isi (by rfl) T.isinstance (by decide +kernel) (pa_cons (pv 6) (pa_cons (pe_bltn (v := .ty "list") (u := .type "list") (by rfl) T.list (by decide +kernel) rfl) pa_nil))))) (pw_or1 (pt_not (pt_val (pe_callB call_isi (by rfl) T.isinstance (by decide +kernel) (pa_cons (pv 7) (pa_cons (pe_bltn (v := .ty "list") (u := .type "list") (by rfl) T.list (by decide +kernel) rfl) pa_nil))))))))) (pss_one (ps_ret pe_bl)) pss_nil)
      (pss_cons (ps_set (i := 9) sc_l_summed_right.nd rfl (Or.inl rfl) (pe_callB (cr_all rfl) (by rfl) T.all (by decide +kernel) (pa_cons (pe_lc (own := [("_law_one", 10)]) (g := gName 10) (tt := tYes) (te := (tCall spWhole [] E0 (tCons (tVar 10) tNil))) rfl sc_l_summed_right.nd (pi_list (pe_op op_cat (pe_op op_cat (pe_op op_cat (pe_lst (pa_cons (pv 4) (pa_cons (pv 8) pa_nil))) (Ak.pe_listV rfl (pv 5) (by rfl) T.list)) (pv 6)) (pv 7))) (blkOk_by (own := [("_law_one", 10)]) (N := ["_law_program", "_law_book_here", "_law_handed", "_law_found", "_law_kept", "_law_sums_here", "_law_gone", "_law_told", "_law_most", "_law_good", "_law_one"]) (sc := defScope st_l_summed_right) (by decide +kernel)) (fun _ _ _ _ _ => (pg_name (i := 10) sc_l_summed_right.nd rfl (Or.inl rfl))) (fun _ _ _ _ _ => pts_nil) (fun _ _ _ _ _ => (pe_call G_l_whole (hr.mono (by decide)) rfl D_l_whole.mg D_l_whole.kp D_l_whole.b .nil pass0 (pa_cons (pv 10) pa_nil)))) pa_nil)))
      (pss_cons (ps_expr (pe_bm0 PySem.F.plainAttrs_dict PySem.F.slot_dict_clear PySem.F.type_dict_clear mtd_clear (pv 5)))
      (pss_cons (ps_expr (pe_bm PySem.F.plainAttrs_list PySem.F.slot_list_append PySem.F.type_list_append mt_append (pv 6) (pa_cons pe_int pa_nil)))
      (pss_cons (ps_expr (pe_bm PySem.F.plainAttrs_list PySem.F.slot_list_append PySem.F.type_list_append mt_append (pv 7) (pa_cons pe_int pa_nil)))
      (pss_one (ps_ret (pv 9)))))))))))), ?_⟩
    refine ⟨_, rfl, b, us, rfl, .inl (SqL.of hb), fun L hL => ?_⟩
    have sL := Same.new (o := .lst us) hL
    have aL := upd_same (H := H) (a := L) (o := .lst us)
    generalize upd H L (.lst us) = J at sL aL ⊢
    refine ⟨_, rfl, _, rfl, v, L, us, h, rs, rfl, hv.mono (TupK.same sL), ok, aL, hus.mono (TupK.same sL), hl, room, fw, fun t dC gL tL H1 s1 ht hd hg htl ne SA => ?_⟩
    have s01 := sL.trans s1
    refine ⟨_, rfl, _, _, _, _, true, rfl, .ty "tuple", .base (.tup SA.1), T.kTT, _, rfl, iteF ⟨_, rfl, _, rfl, _, rfl, v, b, us, h, rs, rfl, hv.mono (TupK.same s01), ok, s01 _ _ hb, hus.mono (TupK.same s01), hl, room, fw, fun t2 dC2 gL2 tL2 H2 s2 _ _ _ _ _ SB => ?_⟩⟩
    have SA2 := SA.same s2
    have s02 := s01.trans s2
    refine ⟨2, t, t2, _, _, by decide, rfl, rfl, SqT.of SA2.1, SqT.of SB.1, sum_eq SA2 SB, _, rfl, iteF ⟨_, rfl, _, rfl, L, b, us, rfl, rfl, SqL.of (s2 _ _ (s1 _ _ aL)), SqL.of (s02 _ _ hb), rows_refs hus, _, rfl, iteF ?_⟩⟩
    refine ⟨_, rfl, t, _, rfl, SqT.of SA2.1, rfl, _, _, rfl, _, _, rfl, _, _, rfl, _, _, rfl, _, _, rfl, rfl, ?_⟩
    refine ⟨_, rfl, _, _, _, _, true, rfl, .ty "dict", .base (.dK SA2.2.1), T.kDD, _, rfl, iteF ⟨_, rfl, _, _, _, _, true, rfl, .ty "list", .base (.lst SA2.2.2.1), T.kLL, _, rfl, iteF ⟨_, rfl, _, _, _, _, true, rfl, .ty "list", .base (.lst SA2.2.2.2), T.kLL, _, rfl, iteF ?_⟩⟩⟩
    have co := sumB_cs h.m rs
    have lg : (sumB h.m rs).gone.length ≤ 3000 := by have := runS_gone rs ⟨[], []⟩ ⟨zeroK h.m, [], 0⟩; rw [List.length_nil, Nat.zero_add] at this; exact Nat.le_trans this hl
    have lt : (tolds rs).length ≤ 3000 := Nat.le_trans (List.length_filterMap_le _ _) hl
    have lc : (sumB h.m rs).cs.length ≤ 50 := Nat.le_trans co.ln (Nat.le_trans (hdK_len _) ok.2.1)
    have fresh2 : ∀ {a : Addr}, J a = none → H a = none := fun {a} e => sL.free e
    have hdH := fresh2 hd
    have hgH := fresh2 hg
    have htH := fresh2 htl
    obtain ⟨_, a5, a6, a7⟩ := SA2
    have ai : ∀ x ∈ [V.int (keptN rs : Int), V.int ((sumB h.m rs).most : Int)] ++ (sumB h.m rs).cs.map (·.2) ++ (sumB h.m rs).gone.map V.int ++ (tolds rs).map V.int, ∃ n, x = V.int n := by
      intro x hx
      rcases List.mem_append.mp hx with hx | hx
      · rcases List.mem_append.mp hx with hx | hx
        · rcases List.mem_append.mp hx with hx | hx
          · simp only [List.mem_cons, List.not_mem_nil, or_false] at hx
            rcases hx with rfl | rfl <;> exact ⟨_, rfl⟩
          · obtain ⟨q, hq, rfl⟩ := List.mem_map.mp hx
            exact co.iv q hq
        · obtain ⟨q, _, rfl⟩ := List.mem_map.mp hx
          exact ⟨q, rfl⟩
      · obtain ⟨q, _, rfl⟩ := List.mem_map.mp hx
        exact ⟨q, rfl⟩
    have al : ([V.int (keptN rs : Int), V.int ((sumB h.m rs).most : Int)] ++ (sumB h.m rs).cs.map (·.2) ++ (sumB h.m rs).gone.map V.int ++ (tolds rs).map V.int).length ≤ 7000 := by
      rw [List.length_append, List.length_append, List.length_append, List.length_map, List.length_map, List.length_map]
      show 2 + _ + _ + _ ≤ _
      omega
    refine ⟨_, rfl, _, rfl, by show 2 ≤ sizeLine; decide, fun A1 hA1 => ⟨_, rfl, dC, _, rfl, (Same.new hA1) _ _ a5, fun A2 hA2 => ⟨A1, A2, _, _, rfl, rfl, (Same.new hA2) _ _ upd_same, upd_same, ?_, fun A3 hA3 => ⟨_, rfl, A3, gL, _, _, rfl, rfl, upd_same, (Same.new hA3) _ _ ((Same.new hA2) _ _ ((Same.new hA1) _ _ a6)), ?_, fun A4 hA4 => ⟨_, rfl, A4, tL, _, _, rfl, rfl, upd_same, (Same.new hA4) _ _ ((Same.new hA3) _ _ ((Same.new hA2) _ _ ((Same.new hA1) _ _ a7))), ?_, fun A5 hA5 => ⟨A5, rfl, ⟨_, SqL.of upd_same⟩, ?_⟩⟩⟩⟩⟩⟩
    · rw [List.length_map]; exact Nat.le_trans (by show 2 + _ ≤ 100; omega) (by decide)
    · rw [List.length_append, List.length_map, List.length_map]; exact Nat.le_trans (by show 2 + _ + _ ≤ 7000; omega) (by decide)
    · rw [← List.length_append]; exact Nat.le_trans al (by decide)
    have s5 := (((Same.new (o := .lst [V.int (keptN rs : Int), V.int ((sumB h.m rs).most : Int)]) hA1).trans (Same.new (o := .lst ((sumB h.m rs).cs.map (·.2))) hA2)).trans (Same.new (o := .lst ([V.int (keptN rs : Int), V.int ((sumB h.m rs).most : Int)] ++ (sumB h.m rs).cs.map (·.2))) hA3)).trans ((Same.new (o := .lst ([V.int (keptN rs : Int), V.int ((sumB h.m rs).most : Int)] ++ (sumB h.m rs).cs.map (·.2) ++ (sumB h.m rs).gone.map V.int)) hA4).trans (Same.new (o := .lst ([V.int (keptN rs : Int), V.int ((sumB h.m rs).most : Int)] ++ (sumB h.m rs).cs.map (·.2) ++ (sumB h.m rs).gone.map V.int ++ (tolds rs).map V.int)) hA5))
    generalize hvs : [V.int (keptN rs : Int), V.int ((sumB h.m rs).most : Int)] ++ (sumB h.m rs).cs.map (·.2) ++ (sumB h.m rs).gone.map V.int ++ (tolds rs).map V.int = ws at ai al s5 ⊢
    refine fun Lz hLz => ?_
    have a8 := upd_same (a := A5) (o := .lst ws) (H := upd (upd (upd (upd H2 A1 (.lst [V.int (keptN rs : Int), V.int ((sumB h.m rs).most : Int)])) A2 (.lst ((sumB h.m rs).cs.map (·.2)))) A3 (.lst ([V.int (keptN rs : Int), V.int ((sumB h.m rs).most : Int)] ++ (sumB h.m rs).cs.map (·.2)))) A4 (.lst ([V.int (keptN rs : Int), V.int ((sumB h.m rs).most : Int)] ++ (sumB h.m rs).cs.map (·.2) ++ (sumB h.m rs).gone.map V.int)))
    generalize upd (upd (upd (upd (upd H2 A1 (.lst [V.int (keptN rs : Int), V.int ((sumB h.m rs).most : Int)])) A2 (.lst ((sumB h.m rs).cs.map (·.2)))) A3 (.lst ([V.int (keptN rs : Int), V.int ((sumB h.m rs).most : Int)] ++ (sumB h.m rs).cs.map (·.2)))) A4 (.lst ([V.int (keptN rs : Int), V.int ((sumB h.m rs).most : Int)] ++ (sumB h.m rs).cs.map (·.2) ++ (sumB h.m rs).gone.map V.int))) A5 (.lst ws) = H3 at s5 a8 hLz ⊢
    refine lc_it walk_list (fun i J => Same H3 J ∧ J Lz = some (.lst ((List.replicate i true).map V.bl))) ⟨Same.new hLz, upd_same⟩ (fun i J _ z => SqL.of (z.1 _ _ a8)) (fun i x J J1 hi z yy => ?_) fun J z => ?_
    · obtain ⟨rfl, ex⟩ := yy
      obtain ⟨sm, hJ⟩ := z
      obtain ⟨n, rfl⟩ := ai x (List.mem_of_getElem? ex)
      refine ⟨rfl, lc_yes ?_⟩
      refine ⟨_, rfl, n, rfl, _, hJ, Nat.lt_of_le_of_lt (by rw [List.length_map, List.length_replicate]; omega : _ ≤ 7000) (by decide), fun b o e => ?_, ?_⟩
      · rw [upd_ne (ne_of_none e hLz)]; exact sm b o e
      · rw [upd_same, List.replicate_succ', List.map_append]; rfl
    · obtain ⟨sm, hJ⟩ := z
      have s3J := s5.trans sm
      have b5 := s3J _ _ a5
      have b6 := s3J _ _ a6
      have b7 := s3J _ _ a7
      refine ⟨Lz, List.replicate ws.length true, rfl, SqL.of hJ, ?_⟩
      have ea : (List.replicate ws.length true).all id = true := by rw [List.all_eq_true]; intro x hx; rw [(List.mem_replicate.mp hx).2]; rfl
      rw [ea]
      have n56 : gL ≠ dC := ne_of b6 b5 (by intro z; cases z)
      have n57 : tL ≠ dC := ne_of b7 b5 (by intro z; cases z)
      have c6 : (upd J dC (.dK [])) gL = some (.lst ((sumB h.m rs).gone.map V.int)) := (upd_ne n56).trans b6
      have c7 : (upd (upd J dC (.dK [])) gL (.lst ((sumB h.m rs).gone.map V.int ++ [V.int 1]))) tL = some (.lst ((tolds rs).map V.int)) := by rw [upd_ne ne.symm, upd_ne n57]; exact b7
      refine ⟨_, rfl, .inr (.inr (.inl ⟨rfl, .inl ⟨_, b5⟩⟩)), dC, _, rfl, rfl, b5, ⟨_, rfl, .inl ⟨rfl, _, SqL.of c6⟩, gL, _, _, rfl, rfl, c6, ?_, ⟨_, rfl, .inl ⟨rfl, _, SqL.of c7⟩, tL, _, _, rfl, rfl, c7, ?_, ⟨_, rfl, ?_⟩⟩⟩⟩
      · rw [List.length_map]; exact Nat.lt_of_le_of_lt lg (by decide)
      · rw [List.length_map]; exact Nat.lt_of_le_of_lt lt (by decide)
      · exact k _ fun b o e => by
          rw [upd_ne (ne_of_none e htH), upd_ne (ne_of_none e hgH), upd_ne (ne_of_none e hdH)]
          exact s3J _ _ (s02 _ _ e)
end
end Ak
namespace Ak
open PySem L2
local macro_rules | `(tactic| walk_at "no attr") => `(tactic| exact rwF_no _ _ _ (by decide +kernel) (by decide +kernel) (by decide +kernel))
/-! ### how much can stand by few rows -/
def Bn : Nat → Nat → Nat
  | 0, _ => 0
  | _ + 1, 0 => 0
  | j + 1, t + 1 => Bn (j + 1) t + 1 + Bn j t
theorem Bn_mono (j t : Nat) : Bn j t ≤ Bn j (t + 1) := by
  cases j with
  | zero => rw [Bn, Bn]; exact Nat.le_refl 0
  | succ j => rw [Bn]; omega
def tbB : Nat → Nat × Nat × Nat × Nat
  | 0 => (0, 0, 0, 0)
  | t + 1 => let p := tbB t; (p.1 + 1, p.2.1 + 1 + p.1, p.2.2.1 + 1 + p.2.1, p.2.2.2 + 1 + p.2.2.1)
theorem tbB_eq : ∀ t, tbB t = (Bn 1 t, Bn 2 t, Bn 3 t, Bn 4 t)
  | 0 => rfl
  | t + 1 => by
    rw [tbB, tbB_eq t]
    simp only [Bn]
theorem Bn_94 : Bn 4 94 ≤ MX := by
  have h : (tbB 94).2.2.2 ≤ MX := by decide +kernel
  rw [tbB_eq] at h
  exact h
theorem Bn_le {j s t : Nat} (h : s ≤ t) : Bn j s ≤ Bn j t := by
  induction h with
  | refl => exact Nat.le_refl _
  | step _ ih => exact Nat.le_trans ih (Bn_mono _ _)
theorem infix_app {α : Type} {u a b : List α} (h : u <:+: a ++ b) : u <:+: a ∨ u <:+: b ∨ ∃ x y, u = x ++ y ∧ x <:+: a ∧ y <+: b := by
  obtain ⟨p, q, e⟩ := h
  rcases List.append_eq_append_iff.mp e with ⟨c, e1, e2⟩ | ⟨c, e1, e2⟩
  · exact .inl ⟨p, c, e1.symm⟩
  · rcases List.append_eq_append_iff.mp e1 with ⟨f, e3, e4⟩ | ⟨f, e3, e4⟩
    · exact .inr (.inr ⟨f, c, e4, ⟨p, [], by rw [List.append_nil]; exact e3.symm⟩, ⟨q, e2.symm⟩⟩)
    · exact .inr (.inl ⟨f, q, by rw [e2, e4]⟩)
def PB (t : Nat) (s : BS) : Prop := (∀ (j : Nat) (N u : List Str), N.length ≤ j → (u <:+: s.st ∨ ∃ h ∈ s.hs, u <:+: h) → (∀ x ∈ u, x ∈ N) → u.length ≤ Bn j t) ∧ ∀ h ∈ s.hs, ∃ k rest, h = k :: rest ∧ k ∉ rest
theorem PB_nil : PB 0 ⟨[], []⟩ := by
  refine ⟨fun j N u _ h _ => ?_, fun _ z => nomatch z⟩
  rcases h with h | ⟨h, hh, _⟩
  · rw [List.infix_nil.mp h]; exact Nat.zero_le _
  · cases hh
theorem PB_up {t : Nat} {s s' : BS} (h : PB t s) (h1 : ∀ u, (u <:+: s'.st ∨ ∃ h ∈ s'.hs, u <:+: h) → (u <:+: s.st ∨ ∃ h ∈ s.hs, u <:+: h)) (h2 : ∀ h ∈ s'.hs, ∃ k rest, h = k :: rest ∧ k ∉ rest) : PB (t + 1) s' :=
  ⟨fun j N u hN hu hx => Nat.le_trans (h.1 j N u hN (h1 u hu) hx) (Bn_mono j t), h2⟩
theorem PB_step {m : HM} {t : Nat} {s : BS} {r : BR} (h : PB t s) (hl : letsB m s r = true) : PB (t + 1) (stepB s r) := by
  obtain ⟨h1, h2⟩ := id h
  cases r with
  | keep k =>
    refine ⟨fun j N u hN hu hx => ?_, h2⟩
    rcases hu with hu | hu
    · cases j with
      | zero =>
        have : N = [] := List.length_eq_zero_iff.mp (by omega)
        cases u with
        | nil => exact Nat.zero_le _
        | cons y r => have := hx y (by simp); rw [‹N = []›] at this; cases this
      | succ j =>
        rw [Bn]
        rcases infix_app (show u <:+: s.st ++ [k] from hu) with hu | hu | ⟨x, y, rfl, hx1, hy⟩
        · have := h1 (j + 1) N u hN (.inl hu) hx; omega
        · have := hu.length_le; simp at this; omega
        · have l1 := h1 (j + 1) N x hN (.inl hx1) fun z hz => hx z (List.mem_append_left _ hz)
          have l2 := hy.length_le
          rw [List.length_append]; simp at l2; omega
    · exact Nat.le_trans (h1 j N u hN (.inr hu) hx) (Bn_mono j t)
  | ended k =>
    refine PB_up h (fun u hu => ?_) h2
    rcases hu with hu | hu
    · exact .inl (hu.trans (List.dropLast_prefix s.st).isInfix)
    · exact .inr hu
  | ask q n =>
    have e0 : letsB m s (.ask q n) = (decide (0 ≤ n ∧ n < (s.st.length : Int)) && (hrs m q (s.st[n.toNat]?.getD Str.empty) && !(s.st.drop (n.toNat + 1)).any (hrs m q))) := rfl
    rw [e0, Bool.and_eq_true, Bool.and_eq_true, decide_eq_true_eq] at hl
    obtain ⟨hn, hk, hr⟩ := hl
    have hi : n.toNat < s.st.length := by omega
    have ed : s.st.drop n.toNat = s.st[n.toNat] :: s.st.drop (n.toNat + 1) := List.drop_eq_getElem_cons hi
    rw [List.getElem?_eq_getElem hi, Option.getD_some] at hk
    refine PB_up h (fun u hu => ?_) fun g hg => ?_
    · rcases hu with hu | ⟨g, hg, hu⟩
      · exact .inl (hu.trans (List.take_prefix n.toNat s.st).isInfix)
      · rcases List.mem_append.mp hg with hg | hg
        · exact .inr ⟨g, hg, hu⟩
        · rw [List.mem_singleton.mp hg] at hu
          exact .inl (hu.trans (List.drop_suffix n.toNat s.st).isInfix)
    · rcases List.mem_append.mp hg with hg | hg
      · exact h2 g hg
      · rw [List.mem_singleton.mp hg]
        refine ⟨_, _, ed, fun z => ?_⟩
        rw [Bool.not_eq_true', List.any_eq_false] at hr
        exact hr _ z hk
  | go i =>
    have hi : 0 ≤ i ∧ i < (s.hs.length : Int) := of_decide_eq_true hl
    have hin : i.toNat < s.hs.length := by omega
    have eg : s.hs[i.toNat]? = some s.hs[i.toNat] := List.getElem?_eq_getElem hin
    have hgm := List.mem_of_getElem? eg
    have es : stepB s (.go i) = ⟨s.st ++ s.hs[i.toNat], s.hs⟩ := by show BS.mk (s.st ++ s.hs[i.toNat]?.getD []) s.hs = _; rw [eg]; rfl
    rw [es]
    generalize s.hs[i.toNat] = g at hgm
    obtain ⟨k, rest, eg2, hkr⟩ := h2 g hgm
    refine ⟨fun j N u hN hu hx => ?_, h2⟩
    rcases hu with hu | hu
    · cases j with
      | zero =>
        have : N = [] := List.length_eq_zero_iff.mp (by omega)
        cases u with
        | nil => exact Nat.zero_le _
        | cons y r => have := hx y (by simp); rw [‹N = []›] at this; cases this
      | succ j =>
        rw [Bn]
        rcases infix_app (show u <:+: s.st ++ g from hu) with hu | hu | ⟨x, y, rfl, hx1, hy⟩
        · have := h1 (j + 1) N u hN (.inl hu) hx; omega
        · have := h1 (j + 1) N u hN (.inr ⟨g, hgm, hu⟩) hx; omega
        · have l1 := h1 (j + 1) N x hN (.inl hx1) fun z hz => hx z (List.mem_append_left _ hz)
          rw [List.length_append]
          cases y with
          | nil => simp; omega
          | cons y0 y1 =>
            rw [eg2] at hy
            obtain ⟨rfl, hy1⟩ := List.cons_prefix_cons.mp hy
            have hkN : y0 ∈ N := hx y0 (by simp)
            have l2 := h1 j (N.erase y0) y1 (by rw [List.length_erase_of_mem hkN]; omega) (.inr ⟨g, hgm, by rw [eg2]; exact hy1.isInfix.trans (List.suffix_cons y0 rest).isInfix⟩) fun z hz => by
              refine (List.mem_erase_of_ne fun e => hkr ?_).mpr (hx z (by simp [hz]))
              rw [← e]; exact hy1.subset hz
            rw [List.length_cons]; omega
    · exact Nat.le_trans (h1 j N u hN (.inr hu) hx) (Bn_mono j t)
  | tell v => exact PB_up h (fun u hu => hu) h2
theorem getH_keys {m : HM} {k : Str} (h : (getH m k).isSome = true) : k ∈ m.map (·.1) := by
  unfold getH at h
  rw [Option.isSome_map, List.find?_isSome] at h
  obtain ⟨p, hp, e⟩ := h
  exact List.mem_map.mpr ⟨p, hp, of_decide_eq_true e⟩
theorem room_B {m : HM} (h4 : m.length ≤ 4) : ∀ (rs : List BR) (s : BS) (t : Nat), PB t s → KnS m s → t + rs.length ≤ 94 → RoomW m s rs := by
  have key : ∀ (s : BS) (t : Nat), PB t s → KnS m s → t ≤ 94 → s.st.length ≤ MX := fun s t p kn ht =>
    Nat.le_trans (p.1 4 (m.map (·.1)) s.st (by rw [List.length_map]; exact h4) (.inl List.infix_rfl) fun x hx => getH_keys (kn.1 x hx)) (Nat.le_trans (Bn_le ht) Bn_94)
  intro rs
  induction rs with
  | nil => intro s t p kn ht; exact key s t p kn (by simp at ht; omega)
  | cons r rs ih =>
    intro s t p kn ht
    rw [List.length_cons] at ht
    exact ⟨key s t p kn (by omega), fun hl => ih _ (t + 1) (PB_step p hl) (kn.step hl) (by omega)⟩
end Ak
namespace Ak
open PySem L2
local macro_rules | `(tactic| walk_at "no attr") => `(tactic| exact rwF_no _ _ _ (by decide +kernel) (by decide +kernel) (by decide +kernel))
/-! ### another house, near the first -/
abbrev st_l_other_house : Stmt := top 28
theorem sc_l_other_house : FnScope ["_law_deal_here", "_law_program", "_law_asks", "_law_keepers", "_law_functions", "_law_k", "_law_j", "_law_keeper", "_law_way", "_law_hears", "_law_heard_here", "_law_more", "_law_some", "_law_hear", "_law_ask", "_law_q"] ["_law_deal_here", "_law_program"] (defScope st_l_other_house) := ⟨rfl, rfl, rfl, by decide +kernel, rfl, by decide +kernel, by decide +kernel⟩
def spOH : Sp := fun vs H Q _ => ∃ (d l : Addr) (v : V) (h : Hou), vs = [.ref d, v] ∧ DealAt H d l ∧ Rep H h.d v ∧ GoodH h ∧ ∀ (v2 : V) (h2 : Hou) (H' : Hp), Rep H' h2.d v2 → h2.Ok → 1 ≤ h2.ks.length → h2.ks.length ≤ 4 → DealAt H' d l → Kp d l H H' → Q v2 H'
theorem catA_use {K : PySem.W.Frag} {H : Hp} {a b : Addr} {xs ys : List V} {Q : VK} (ha : H a = some (.tup xs)) (hb : H b = some (.tup ys)) (hz : xs.length + ys.length ≤ 1000) (k : ∀ p H', Same H H' → H' p = some (.tup (xs ++ ys)) → Q (.ref p) H') : rCatA K (.ref a) (.ref b) H Q := by
  refine ⟨a, b, xs, ys, rfl, rfl, SqT.of ha, SqT.of hb, sz1000 hz, fun e => k b H (Same.refl H) ?_, fun _ e => k a H (Same.refl H) ?_, fun _ _ p hp => k p _ (Same.new hp) upd_same⟩
  · rw [e]; exact hb
  · rw [e, List.append_nil]; exact ha
theorem first_row {H : Hp} {rows : List (Str × List D)} {us : List V} (h : Reps H (rows.map rowD) us) (hl : 1 ≤ rows.length) : ∃ (a : Addr) (x : Str) (ws t : List V), us = .ref a :: t ∧ H a = some (.tup (.str x :: ws)) := by
  cases rows with
  | nil => simp at hl
  | cons x r =>
    obtain ⟨v, t, rfl, h1, _⟩ := h
    obtain ⟨a, ws, rfl, ha, _⟩ := rowD_at h1
    exact ⟨a, x.1, ws, t, rfl, ha⟩
theorem reps_take {H : Hp} : ∀ {ds : List D} {vs : List V} (n : Nat), Reps H ds vs → Reps H (ds.take n) (vs.take n)
  | _, _, 0, _ => rfl
  | [], vs, n + 1, h => by rw [show vs = [] from h]; rfl
  | d :: ds, _, n + 1, ⟨v, r, e, h1, h2⟩ => by rw [e]; exact Reps.cons h1 (reps_take n h2)
theorem reps_drop {H : Hp} : ∀ {ds : List D} {vs : List V} (n : Nat), Reps H ds vs → Reps H (ds.drop n) (vs.drop n)
  | _, _, 0, h => h
  | [], vs, n + 1, h => by rw [show vs = [] from h]; rfl
  | d :: ds, _, n + 1, ⟨v, r, e, h1, h2⟩ => by rw [e]; exact reps_drop n h2
theorem reps_set {H : Hp} {d : D} {v : V} (g : Rep H d v) : ∀ {ds : List D} {vs : List V} (n : Nat), Reps H ds vs → Reps H (ds.set n d) (vs.set n v)
  | [], vs, n, h => by rw [show vs = [] from h]; rfl
  | e :: ds, _, 0, ⟨u, r, e1, h1, h2⟩ => by rw [e1]; exact Reps.cons g h2
  | e :: ds, _, n + 1, ⟨u, r, e1, h1, h2⟩ => by rw [e1]; exact Reps.cons h1 (reps_set g n h2)
theorem e_at {h : Hou} {H : Hp} {kr : KpR} {ve : V} (g : GoodH h) (hk : kr ∈ h.ks) (re : Rep H kr.e ve) : ∃ (pe : Addr) (x y : Str) (ws : List V), ve = .ref pe ∧ H pe = some (.tup (.str x :: .str y :: ws)) := by
  obtain ⟨x, n, c, kq, e⟩ := g.ks
  rw [e] at hk
  obtain ⟨q, _, rfl⟩ := List.mem_map.mp hk
  obtain ⟨pe, vs, rfl, hp, v0, _, rfl, e0, v1, r, rfl, e1, _⟩ := re
  cases (show v0 = _ from e0)
  cases (show v1 = _ from e1)
  exact ⟨pe, _, _, r, rfl, hp⟩
theorem decS_lenT {K : PySem.W.Frag} {i : Nat} {σ : L2.St} {H : Hp} {a : Addr} {xs : List V} {n : Int} (e : σ[i]? = some (some (.ref a))) (ha : H a = some (.tup xs)) :
    DecS (tTest (tOp (rI0 fun i j => V.bl (decide (j < i))) (tCB (fun zs H1 Q => ∃ p ys, zs = [V.ref p] ∧ (SqL K H1 p ys ∨ SqT K H1 p ys) ∧ Q (V.int (ys.length : Int)) H1) (tCons (tVar i) tNil)) (tC (.int n)))) σ H (n < (xs.length : Int)) := fun Q a' b' => by
  refine ⟨_, e, a, xs, rfl, .inr (SqT.of ha), _, _, rfl, rfl, _, rfl, ?_⟩
  by_cases h : n < (xs.length : Int)
  · rw [decide_eq_true h]; exact a' H (Same.refl H) h
  · rw [decide_eq_false h]; exact b' H (Same.refl H) h
section
variable {P : Program} {w : World} {K : PySem.W.Frag} {mg : Str → Option Value} {base : Heap} {f2 : Addr} {d2 : FuncData}
theorem ok_l_oh {f : Addr} {fd : FuncData} (D : Fn K mg "_law_other_house" st_l_other_house ["_law_deal_here", "_law_program"] f fd) (T : BltBk mg) (D_l_draw : Fn K mg "_law_draw" st_l_draw ["_law_deal_here", "_law_many"] f2 d2) (G_l_draw : FnOk P w K mg base CX0 1 f2 d2 ["_law_deal_here", "_law_many"] spDraw) : FnOk P w K mg base CX0 2 f fd ["_law_deal_here", "_law_program"] spOH := by
  refine D.F.ok sc_l_other_house (fun vs H Q E h => ?_) (fun cdv A outer s0 H vs Q E hr h => ?_)
  · obtain ⟨d, l, v, h, rfl, _⟩ := h
    rfl
  · obtain ⟨d, l, v, h, rfl, hD, hv, gd, k⟩ := h
    obtain ⟨p, a, kp, f0, ua, uk, uf, rfl, hp, ha, hk, hf, ra, rk, rf⟩ := Hou.at hv
    obtain ⟨aF, xF, wF, tF, euf, haF⟩ := first_row rf (by obtain ⟨f, e⟩ := gd.fs; rw [e]; exact Nat.le_refl 1)
    have lk := Reps.len rk
    have la := Reps.len ra
    rw [List.length_map] at lk la
    have k1 := gd.k1
    have k2 := gd.k2
    refine ⟨_, (pss_cons (ps_asg (pv 1) (pg_tup (by rfl) (pgs_cons (pg_name (i := 2) sc_l_other_house.nd rfl (Or.inl rfl)) (pgs_cons (pg_name (i := 3) sc_l_other_house.nd rfl (Or.inl rfl)) (pgs_cons (pg_name (i := 4) sc_l_other_house.nd rfl (Or.inr rfl)) pgs_nil)))))
      (pss_cons (ps_set (i := 5) sc_l_other_house.nd rfl (Or.inl rfl) (pe_call G_l_draw (hr.mono (by decide)) rfl D_l_draw.mg D_l_draw.kp D_l_draw.b .nil pass0 (pa_cons (pv 0) (pa_cons (pe_callB call_len_seq (by rfl) T.len (by decide +kernel) (pa_cons (pv 3) pa_nil)) pa_nil))))
      (pss_cons (ps_set (i := 6) sc_l_other_house.nd rfl (Or.inl rfl) (pe_call G_l_draw (hr.mono (by decide)) rfl D_l_draw.mg D_l_draw.kp D_l_draw.b .nil pass0 (pa_cons (pv 0) (pa_cons (pe_callB call_len_seq (by rfl) T.len (by decide +kernel) (pa_cons (pv 3) pa_nil)) pa_nil))))
      (pss_cons (ps_set (i := 7) sc_l_other_house.nd rfl (Or.inr rfl) (pe_ix ix_tup (pv 3) (pv 5) (fun _ _ => rfl)))
      (pss_cons (ps_set (i := 8) sc_l_other_house.nd rfl (Or.inl rfl) (pe_call G_l_draw (hr.mono (by decide)) rfl D_l_draw.mg D_l_draw.kp D_l_draw.b .nil pass0 (pa_cons (pv 0) (pa_cons pe_int pa_nil))))
      (pss_cons (ps_set (i := 9) sc_l_other_house.nd rfl (Or.inl rfl) (pe_ix ix_tup (pv 7) pe_int (fun _ _ => rfl)))
      (C8.pss_cut (ps_if (pt_cmpR op_eq (pv 8) pe_int (nomark _)) (pss_one (ps_set (i := 9) sc_l_other_house.nd rfl (Or.inl rfl) (pe_slice sl_tupA (pv 9) (po_some pe_int) po_none))) pss_nil)
      (C8.pss_cut (ps_if (pt_cmpR op_eq (pv 8) pe_int (nomark _)) (pss_cons (ps_set (i := 10) sc_l_other_house.nd rfl (Or.inr rfl) (pe_lc (own := [("_law_hear", 13)]) (g := gName 13) (tt := tYes) (te := (tOp (rIxT K) (tVar 13) (tC (V.int 0)))) rfl sc_l_other_house.nd (pi_tup (pv 9)) (blkOk_by (own := [("_law_hear", 13)]) (N := ["_law_deal_here", "_law_program", "_law_asks", "_law_keepers", "_law_functions", "_law_k", "_law_j", "_law_keeper", "_law_way", "_law_hears", "_law_heard_here", "_law_more", "_law_some", "_law_hear", "_law_ask", "_law_q"]) (sc := defScope st_l_other_house) (by decide +kernel)) (fun _ _ _ _ _ => (pg_name (i := 13) sc_l_other_house.nd rfl (Or.inl rfl))) (fun _ _ _ _ _ => pts_nil) (fun _ _ _ _ _ => (pe_ix ix_tup (pv 13) pe_int (fun _ _ => rfl)))))
      (pss_cons (ps_set (i := 11) sc_l_other_house.nd rfl (Or.inl rfl) (pe_slice sl_list (pe_lc (own := [("_law_ask", 14)]) (g := gName 14) (tt := tTest (tOp (rIn K true) (tOp (rIxT K) (tVar 14) (tC (V.int 0))) (tVar 10))) (te := (tOp (rIxT K) (tVar 14) (tC (V.int 0)))) rfl sc_l_other_house.nd (pi_tup (pv 2)) (blkOk_by (own := [("_law_ask", 14)]) (N := ["_law_deal_here", "_law_program", "_law_asks", "_law_keepers", "_law_functions", "_law_k", "_law_j", "_law_keeper", "_law_way", "_law_hears", "_law_heard_here", "_law_more", "_law_some", "_law_hear", "_law_ask", "_law_q"]) (sc := defScope st_l_other_house) (by decide +kernel)) (fun _ _ _ _ _ => (pg_name (i := 14) sc_l_other_house.nd rfl (Or.inl rfl))) (fun _ _ _ _ _ => (pts_one (pt_cmpR op_notIn_seq (pe_ix ix_tup (pv 14) pe_int (fun _ _ => rfl)) (pv 10) (by rfl)))) (fun _ _ _ _ _ => (pe_ix ix_tup (pv 14) pe_int (fun _ _ => rfl)))) po_none (po_some pe_int)))
      (pss_one (ps_set (i := 9) sc_l_other_house.nd rfl (Or.inl rfl) (pe_op op_catA (pe_callTy call_tuple_of (by rfl) T.tuple (by decide +kernel) (pa_cons (pe_lc (own := [("_law_q", 15)]) (g := gName 15) (tt := tYes) (te := (tTup (tCons (tVar 15) (tCons (tOp (rIxT K) (tOp (rIxT K) (tVar 7) (tC (V.int 4))) (tC (V.int 0))) (tCons (tOp (rIxT K) (tOp (rIxT K) (tVar 4) (tC (V.int 0))) (tC (V.int 0))) (tCons (tOp (rIxT K) (tOp (rIxT K) (tVar 7) (tC (V.int 4))) (tC (V.int 1))) (tCons (tTup (tCons (tC (V.str "give")) (tCons (tOp (rIxT K) (tOp (rIxT K) (tVar 7) (tC (V.int 4))) (tC (V.int 1))) tNil))) tNil))))))) rfl sc_l_other_house.nd (pi_list (pv 11)) (blkOk_by (own := [("_law_q", 15)]) (N := ["_law_deal_here", "_law_program", "_law_asks", "_law_keepers", "_law_functions", "_law_k", "_law_j", "_law_keeper", "_law_way", "_law_hears", "_law_heard_here", "_law_more", "_law_some", "_law_hear", "_law_ask", "_law_q"]) (sc := defScope st_l_other_house) (by decide +kernel)) (fun _ _ _ _ _ => (pg_name (i := 15) sc_l_other_house.nd rfl (Or.inl rfl))) (fun _ _ _ _ _ => pts_nil) (fun _ _ _ _ _ => (pe_tup (pa_cons (pv 15) (pa_cons (pe_ix ix_tup (pe_ix ix_tup (pv 7) pe_int (fun _ _ => rfl)) pe_int (fun _ _ => rfl)) (pa_cons (pe_ix ix_tup (pe_ix ix_tup (pv 4) pe_int (fun _ _ => rfl)) pe_int (fun _ _ => rfl)) (pa_cons (pe_ix ix_tup (pe_ix ix_tup (pv 7) pe_int (fun _ _ => rfl)) pe_int (fun _ _ => rfl)) (pa_cons (pe_tup (pa_cons pe_str (pa_cons (pe_ix ix_tup (pe_ix ix_tup (pv 7) pe_int (fun _ _ => rfl)) pe_int (fun _ _ => rfl)) pa_nil))) pa_nil)))))))) pa_nil)) (pv 9)))))) pss_nil)
      (pss_cons (ps_if (PW.pt (pw_and (pt_cmpR op_eq (pv 8) pe_int (nomark _)) (pw_and1 (pt_cmpR op_gt (pe_callB call_len_seq (by rfl) T.len (by decide +kernel) (pa_cons (pv 3) pa_nil)) pe_int (nomark _))))) (pss_one (ps_ret (pe_tup (pa_cons (pv 2) (pa_cons (pe_op op_catA (pe_slice sl_tupA (pv 3) po_none (po_some (pv 5))) (pe_slice sl_tupA (pv 3) (po_some (pe_op op_add (pv 5) pe_int)) po_none)) (pa_cons (pv 4) pa_nil)))))) pss_nil)
      (pss_cons (ps_set (i := 12) sc_l_other_house.nd rfl (Or.inl rfl) (pe_callTy call_list_of (by rfl) T.list (by decide +kernel) (pa_cons (pv 3) pa_nil)))
      (C8.pss_cut (ps_if (pt_cmpR op_eq (pv 8) pe_int (nomark _)) (pss_cons (ps_asg (pe_op op_catA (pe_slice sl_tupA (pe_ix ix_tup (pv 3) (pv 6) (fun _ _ => rfl)) po_none (po_some pe_int)) (pe_tup (pa_cons (pe_ix ix_tup (pv 7) pe_int (fun _ _ => rfl)) pa_nil))) (pg_sub (pv 12) (pv 6) set_list))
      (pss_one (ps_set (i := 9) sc_l_other_house.nd rfl (Or.inl rfl) (pe_ix ix_tup (pe_ix ix_tup (pv 3) (pv 6) (fun _ _ => rfl)) pe_int (fun _ _ => rfl))))) pss_nil)
      (pss_cons (ps_asg (pe_op op_catA (pe_slice sl_tupA (pv 7) po_none (po_some pe_int)) (pe_tup (pa_cons (pv 9) pa_nil))) (pg_sub (pv 12) (pv 5) set_list))
      (pss_one (ps_ret (pe_tup (pa_cons (pv 2) (pa_cons (pe_callTy call_tuple_of (by rfl) T.tuple (by decide +kernel) (pa_cons (pv 12) pa_nil)) (pa_cons (pv 4) pa_nil)))))))))))))))))), ?_⟩
    refine ⟨_, rfl, p, _, rfl, SqT.of hp, rfl, _, _, rfl, _, _, rfl, _, _, rfl, rfl, ?_⟩
    refine ⟨_, rfl, _, rfl, kp, _, rfl, .inr (SqT.of hk), d, l, _, rfl, hD, by omega, by omega, fun kx J1 kx0 kx1 D1 q1 => ?_⟩
    refine ⟨_, rfl, _, rfl, kp, _, rfl, .inr (SqT.of (kp_tup hD q1 _ _ hk)), d, l, _, rfl, D1, by omega, by omega, fun jx J2 jx0 jx1 D2 q2 => ?_⟩
    have q12 := q1.trans q2
    have hkr : kx.toNat < h.ks.length := by omega
    have ek : h.ks[kx.toNat]? = some h.ks[kx.toNat] := List.getElem?_eq_getElem hkr
    have mk := List.mem_of_getElem? ek
    generalize h.ks[kx.toNat] = kr at ek mk
    have hjr : jx.toNat < h.ks.length := by omega
    have ej : h.ks[jx.toNat]? = some h.ks[jx.toNat] := List.getElem?_eq_getElem hjr
    have mj := List.mem_of_getElem? ej
    generalize h.ks[jx.toNat] = jr at ej mj
    obtain ⟨y1, ey1, ry1⟩ := Reps.get rk (j := kx.toNat) (d := kr.d) (by rw [List.getElem?_map, ek]; rfl)
    obtain ⟨y2, ey2, ry2⟩ := Reps.get rk (j := jx.toNat) (d := jr.d) (by rw [List.getElem?_map, ej]; rfl)
    obtain ⟨q, hs, va, vb, vc, ve, ws, rfl, hq, hhs, rw1, ra1, rb1, rc1, re1⟩ := KpR.at ry1
    obtain ⟨qj, hsj, va2, vb2, vc2, ve2, ws2, rfl, hqj, hhsj, rw2, ra2, rb2, rc2, re2⟩ := KpR.at ry2
    obtain ⟨pe, x0, y0, we, rfl, hpe⟩ := e_at gd mk re1
    have hatk : atI uk kx = some (.ref q) := by
      have := at_natc uk kx.toNat ey1
      rwa [Int.toNat_of_nonneg kx0] at this
    have hatj : atI uk jx = some (.ref qj) := by
      have := at_natc uk jx.toNat ey2
      rwa [Int.toNat_of_nonneg jx0] at this
    have tk2 := kp_tup hD q12
    refine ⟨_, rfl, _, rfl, kp, _, kx, _, rfl, rfl, SqT.of (tk2 _ _ hk), hatk, ?_⟩
    refine ⟨_, rfl, d, l, 4, rfl, D2, by decide, by decide, fun way J3 w0 w1 D3 q3 => ?_⟩
    have q13 := q12.trans q3
    have tk := kp_tup hD q13
    have hk0 := tk _ _ hk
    have hq0 := tk _ _ hq
    have hqj0 := tk _ _ hqj
    have hhs0 := tk _ _ hhs
    have hhsj0 := tk _ _ hhsj
    have hpe0 := tk _ _ hpe
    have ha0 := tk _ _ ha
    have hf0 := tk _ _ hf
    have haF0 := tk _ _ haF
    have rk0 := rk.mono tk
    have ra0 := ra.mono tk
    have rf0 := rf.mono tk
    have r1 := rw1.mono tk
    have r2 := rw2.mono tk
    have l1 := gd.h6 _ mk
    have l2 := gd.h6 _ mj
    clear tk2 q12
    refine ⟨_, rfl, q, _, 5, _, rfl, rfl, SqT.of hq0, at_natc _ 5 rfl, ?_⟩
    refine ⟨fun σ J => Same J3 J ∧ ∃ (hz : Addr) (uw : List V) (hr : List (Str × List Ak.D)), σ = [some (.ref d), some (.ref p), some (.ref a), some (.ref kp), some (.ref f0), some (.int kx), some (.int jx), some (.ref q), some (.int way), some (.ref hz), none, none, none, none, none, none] ∧ J hz = some (.tup uw) ∧ Reps J (hr.map rowD) uw ∧ hr.length ≤ 6, ?_, fun σ J hw => ?_⟩
    · refine decS_if (decS_eqI rfl) (fun C sC _ => ?_) fun C sC _ => ⟨sC, hs, ws, kr.hs, rfl, sC _ _ hhs0, r1.mono (TupK.same sC), l1⟩
      refine ⟨_, rfl, 1, rfl, ?_⟩
      dsimp only [tNoPart]
      refine slA_use (sC _ _ hhs0) fun p' J' s' h' => ?_
      have e1 : cutV ws (some 1) none = ws.drop 1 := cut_fromC ws 1
      rw [e1] at h'
      refine ⟨sC.trans s', p', _, kr.hs.drop 1, rfl, h', ?_, by rw [List.length_drop]; omega⟩
      rw [List.map_drop]; exact reps_drop 1 (r1.mono (TupK.same (sC.trans s')))
    obtain ⟨sJ, hz, uw, hr1, rfl, hhz, rz, lz⟩ := hw
    have lw : uw.length = hr1.length := by rw [Reps.len rz, List.length_map]
    refine ⟨fun σ J => Same J3 J ∧ ∃ (hz : Addr) (uw : List V) (hr : List (Str × List Ak.D)) (o10 o11 : Option V), σ = [some (.ref d), some (.ref p), some (.ref a), some (.ref kp), some (.ref f0), some (.int kx), some (.int jx), some (.ref q), some (.int way), some (.ref hz), o10, o11, none, none, none, none] ∧ J hz = some (.tup uw) ∧ Reps J (hr.map rowD) uw ∧ hr.length ≤ 7, ?_, fun σ J hw => ?_⟩
    · refine decS_if (decS_eqI rfl) (fun C sC _ => ?_) fun C sC _ => ⟨sJ.trans sC, hz, uw, hr1, _, _, rfl, sC _ _ hhz, rz.mono (TupK.same sC), by omega⟩
      have s0 := sJ.trans sC
      have rzC := rz.mono (TupK.same sC)
      have hzC := sC _ _ hhz
      refine ⟨_, rfl, hz, rfl, ⟨_, SqT.of hzC⟩, fun L hL => lc_it walk_tup (fun i G => Same C G ∧ G L = some (.lst (((hr1.map (·.1)).take i).map V.str))) ⟨Same.new hL, upd_same⟩ (fun i G _ z => SqT.of (z.1 _ _ hzC)) (fun i x G G1 hi z yy => ?_) fun G z => ?_⟩
      · obtain ⟨rfl, ex⟩ := yy
        obtain ⟨sm, hG⟩ := z
        rw [lw] at hi
        have et : hr1[i]? = some hr1[i] := List.getElem?_eq_getElem hi
        generalize hr1[i] = k0 at et
        obtain ⟨y, ey, ry⟩ := Reps.get (rzC.mono (TupK.same sm)) (j := i) (d := rowD k0) (by rw [List.getElem?_map, et]; rfl)
        obtain rfl : y = x := by rw [ey] at ex; exact Option.some.inj ex
        obtain ⟨t, _, rfl, ht, _⟩ := rowD_at ry
        refine ⟨rfl, lc_yes ?_⟩
        refine ⟨_, rfl, t, _, 0, _, rfl, rfl, SqT.of ht, at0c _ _, _, hG, small1000 (by rw [List.length_map, List.length_take, List.length_map]; omega), fun b o e => ?_, ?_⟩
        · rw [upd_ne (ne_of_none e hL)]; exact sm b o e
        · rw [upd_same, List.take_add_one, List.getElem?_map, et, List.map_append]; rfl
      obtain ⟨sG, hGL⟩ := z
      rw [lw, show hr1.length = (hr1.map (·.1)).length by rw [List.length_map], List.take_length] at hGL
      generalize hr1.map (·.1) = hnm at hGL
      have s1 := s0.trans sG
      have haG := s1 _ _ ha0
      have raG := ra0.mono (TupK.same s1)
      refine ⟨_, rfl, a, rfl, ⟨_, SqT.of haG⟩, fun L2 hL2 => lc_it walk_tup (fun i G' => Same G G' ∧ ∃ ns : List Str, G' L2 = some (.lst (ns.map V.str)) ∧ ns.length ≤ i) ⟨Same.new hL2, [], upd_same, Nat.zero_le _⟩ (fun i G' _ z => SqT.of (z.1 _ _ haG)) (fun i x G' G1 hi z yy => ?_) fun G' z => ?_⟩
      · obtain ⟨rfl, ex⟩ := yy
        obtain ⟨sm, ns, hG, ln⟩ := z
        rw [la] at hi
        have et : h.as[i]? = some h.as[i] := List.getElem?_eq_getElem hi
        generalize h.as[i] = k0 at et
        obtain ⟨y, ey, ry⟩ := Reps.get (raG.mono (TupK.same sm)) (j := i) (d := rowD k0) (by rw [List.getElem?_map, et]; rfl)
        obtain rfl : y = x := by rw [ey] at ex; exact Option.some.inj ex
        obtain ⟨t, _, rfl, ht, _⟩ := rowD_at ry
        refine ⟨rfl, ?_⟩
        refine ⟨_, rfl, t, _, 0, _, rfl, rfl, SqT.of ht, at0c _ _, _, rfl, L, _, rfl, .inl (SqL.of (sm _ _ hGL)), rfl, flat_strs _, _, rfl, ite2 (fun _ => ?_) fun _ => ⟨sm, ns, hG, by omega⟩⟩
        refine ⟨_, rfl, t, _, 0, _, rfl, rfl, SqT.of ht, at0c _ _, _, hG, small1000 (by have := gd.a2; rw [List.length_map]; omega), fun b o e => ?_, ns ++ [k0.1], ?_, by rw [List.length_append]; show _ + 1 ≤ _; omega⟩
        · rw [upd_ne (ne_of_none e hL2)]; exact sm b o e
        · rw [upd_same, List.map_append]; rfl
      obtain ⟨sG', ns, hGL2, ln⟩ := z
      refine ⟨1, rfl, L2, _, rfl, SqL.of hGL2, fun L3 hL3 => ?_⟩
      have s2 := (s1.trans sG').trans (Same.new (o := .lst (cutV (ns.map V.str) none (some 1))) hL3)
      have aL3 := upd_same (H := G') (a := L3) (o := .lst (cutV (ns.map V.str) none (some 1)))
      have e1 : cutV (ns.map V.str) none (some 1) = (ns.take 1).map V.str := by rw [show (some (1 : Int)) = some ((1 : Nat) : Int) from rfl, cut_toC, List.map_take]
      have hzL := (Same.new (o := .lst (cutV (ns.map V.str) none (some 1))) hL3) _ _ (sG' _ _ (sG _ _ hzC))
      have rzL := rzC.mono (TupK.same ((sG.trans sG').trans (Same.new (o := .lst (cutV (ns.map V.str) none (some 1))) hL3)))
      rw [e1] at s2 aL3 hzL rzL ⊢
      generalize upd G' L3 (.lst ((ns.take 1).map V.str)) = B at s2 aL3 hzL rzL ⊢
      have lt1 : (ns.take 1).length ≤ 1 := by rw [List.length_take]; omega
      generalize ns.take 1 = n1 at aL3 lt1
      have hqB := s2 _ _ hq0
      have hpB := s2 _ _ hpe0
      have hfB := s2 _ _ hf0
      have hFB := s2 _ _ haF0
      refine ⟨_, rfl, L3, rfl, ⟨_, SqL.of aL3⟩, fun M hM => lc_it walk_list (fun i G => Same B G ∧ ∃ (um : List V) (rw : List (Str × List Ak.D)), G M = some (.lst um) ∧ Reps G (rw.map rowD) um ∧ rw.length = i) ⟨Same.new hM, [], [], upd_same, rfl, rfl⟩ (fun i G _ z => SqL.of (z.1 _ _ aL3)) (fun i x G G1 hi z yy => ?_) fun G z => ?_⟩
      · obtain ⟨rfl, ex⟩ := yy
        obtain ⟨sm, um, rr, hG, rG, lr⟩ := z
        rw [List.getElem?_map] at ex
        obtain ⟨nm, _, rfl⟩ := Option.map_eq_some_iff.mp ex
        rw [List.length_map] at hi
        refine ⟨rfl, lc_yes ?_⟩
        have hq9 := sm _ _ hqB
        have hp9 := sm _ _ hpB
        refine ⟨_, rfl, _, rfl, q, _, 4, _, rfl, rfl, SqT.of hq9, at_natc _ 4 rfl, pe, _, 0, _, rfl, rfl, SqT.of hp9, at0c _ _, _, rfl, f0, _, 0, _, rfl, rfl, SqT.of (sm _ _ hfB), by rw [euf]; exact at0c _ _, aF, _, 0, _, rfl, rfl, SqT.of (sm _ _ hFB), at0c _ _, _, rfl, q, _, 4, _, rfl, rfl, SqT.of hq9, at_natc _ 4 rfl, pe, _, 1, _, rfl, rfl, SqT.of hp9, at_natc _ 1 rfl, _, rfl, q, _, 4, _, rfl, rfl, SqT.of hq9, at_natc _ 4 rfl, pe, _, 1, _, rfl, rfl, SqT.of hp9, at_natc _ 1 rfl, by show 2 ≤ sizeLine; decide, fun t1 ht1 => ⟨by show 5 ≤ sizeLine; decide, fun t2 ht2 => ?_⟩⟩
        have m1 := Rep.new (ds := [.s "give", .s y0]) (vs := [V.str "give", V.str y0]) ht1 (Reps.cons rfl (Reps.cons rfl rfl))
        have st1 := Same.new (o := .tup [V.str "give", V.str y0]) ht1
        have ht2' : (upd G1 t1 (.tup [V.str "give", V.str y0])) t2 = none := ht2
        have m2 := Rep.new (ds := [.s nm, .s x0, .s xF, .s y0, .t [.s "give", .s y0]]) (vs := [V.str nm, V.str x0, V.str xF, V.str y0, .ref t1]) ht2' (Reps.cons rfl (Reps.cons rfl (Reps.cons rfl (Reps.cons rfl (Reps.cons m1 rfl)))))
        have st2 := Same.new (o := .tup [V.str nm, V.str x0, V.str xF, V.str y0, .ref t1]) ht2'
        have m2 : Rep (upd (upd G1 t1 (.tup [V.str "give", V.str y0])) t2 (.tup [V.str nm, V.str x0, V.str xF, V.str y0, .ref t1])) (rowD (nm, [.s x0, .s xF, .s y0, .t [.s "give", .s y0]])) (.ref t2) := m2
        have s12 := st1.trans st2
        have hG2 := s12 _ _ hG
        have rG2 := rG.mono (TupK.same s12)
        have sB2 := sm.trans s12
        have lum : um.length = rr.length := by rw [Reps.len rG, List.length_map]
        generalize upd (upd G1 t1 (.tup [V.str "give", V.str y0])) t2 (.tup [V.str nm, V.str x0, V.str xF, V.str y0, .ref t1]) = G2 at m2 hG2 rG2 sB2 ⊢
        refine ⟨_, hG2, small1000 (by omega), fun b o e => ?_, um ++ [.ref t2], rr ++ [(nm, [.s x0, .s xF, .s y0, .t [.s "give", .s y0]])], upd_same, ?_, by rw [List.length_append, lr]; rfl⟩
        · rw [upd_ne (ne_of_none e hM)]; exact sB2 _ _ e
        · have tkG : TupK G2 (upd G2 M (.lst (um ++ [.ref t2]))) := fun q us e => by rw [upd_ne (ne_of e hG2 (by intro z; cases z))]; exact e
          rw [List.map_append]
          exact Reps.append (rG2.mono tkG) (Reps.cons (m2.mono tkG) rfl)
      · obtain ⟨sm, um, rr, hG, rG, lr⟩ := z
        rw [List.length_map] at lr
        refine ⟨M, um, rfl, .inl ⟨SqL.of hG, fun tt htt => ⟨_, rfl, ?_⟩⟩⟩
        have st := Same.new (o := .tup um) htt
        have lum : um.length = rr.length := by rw [Reps.len rG, List.length_map]
        have hz9 := st _ _ (sm _ _ hzL)
        refine catA_use upd_same hz9 (by omega) fun p3 G3 g3 e3 => ?_
        refine ⟨(((s2.trans sm).trans st).trans g3), p3, _, rr ++ hr1, _, _, rfl, e3, ?_, by rw [List.length_append]; omega⟩
        rw [List.map_append]
        exact Reps.append (rG.mono (TupK.same (st.trans g3))) (rzL.mono (TupK.same ((sm.trans st).trans g3)))
    · obtain ⟨sJ2, hz2, uw2, hr2, o10, o11, rfl, hhz2, rz2, lz2⟩ := hw
      clear hhz rz lz lw sJ
      refine decS_if (decS_and (decS_eqI rfl) fun C sC _ => decS_lenT rfl (sC _ _ (sJ2 _ _ hk0))) (fun C sC hp2 => ?_) fun C sC _ => ?_
      · have s0 := sJ2.trans sC
        have hkC := s0 _ _ hk0
        refine ⟨_, rfl, _, rfl, _, rfl, kx, rfl, ?_⟩
        refine slA_use hkC fun p1 G1 g1 e1 => ⟨_, rfl, _, rfl, _, _, rfl, rfl, kx + 1, rfl, ?_⟩
        dsimp only [tNoPart]
        refine slA_use (g1 _ _ hkC) fun p2 G2 g2 e2 => ?_
        have ec1 : cutV uk none (some kx) = uk.take kx.toNat := by have := cut_toC uk kx.toNat; rwa [Int.toNat_of_nonneg kx0] at this
        have ec2 : cutV uk (some (kx + 1)) none = uk.drop (kx.toNat + 1) := by have := cut_fromC uk (kx.toNat + 1); rwa [show ((kx.toNat + 1 : Nat) : Int) = kx + 1 by omega] at this
        rw [ec1] at e1
        rw [ec2] at e2
        refine catA_use (g2 _ _ e1) e2 (by rw [List.length_take, List.length_drop]; omega) fun p3 G3 g3 e3 => ⟨_, rfl, by show 3 ≤ sizeLine; decide, fun t ht => ?_⟩
        have g13 := (g1.trans g2).trans g3
        have sT := Same.new (o := .tup [V.ref a, .ref p3, .ref f0]) ht
        have sA := (s0.trans g13).trans sT
        have rr : Reps (upd G3 t (.tup [V.ref a, .ref p3, .ref f0])) ((h.ks.take kx.toNat ++ h.ks.drop (kx.toNat + 1)).map KpR.d) (uk.take kx.toNat ++ uk.drop (kx.toNat + 1)) := by
          rw [List.map_append, List.map_take, List.map_drop]
          exact Reps.append (reps_take _ (rk0.mono (TupK.same sA))) (reps_drop _ (rk0.mono (TupK.same sA)))
        refine k (.ref t) ⟨h.as, h.ks.take kx.toNat ++ h.ks.drop (kx.toNat + 1), h.fs⟩ _ ⟨t, _, rfl, upd_same, Reps.cons ⟨a, _, rfl, sA _ _ ha0, ra0.mono (TupK.same sA)⟩ (Reps.cons ⟨p3, _, rfl, sT _ _ e3, rr⟩ (Reps.cons ⟨f0, _, rfl, sA _ _ hf0, rf0.mono (TupK.same sA)⟩ rfl))⟩ ⟨gd.ok.1, ?_, gd.ok.2.2.1, fun kr' hk' => ?_⟩ ?_ ?_ (D3.same sA) (q13.trans (Kp.same sA))
        · show (h.ks.take kx.toNat ++ h.ks.drop (kx.toNat + 1)).length ≤ 50
          rw [List.length_append, List.length_take, List.length_drop]; omega
        · rcases List.mem_append.mp hk' with z | z
          · exact gd.ok.2.2.2 _ (List.mem_of_mem_take z)
          · exact gd.ok.2.2.2 _ (List.mem_of_mem_drop z)
        · show 1 ≤ (h.ks.take kx.toNat ++ h.ks.drop (kx.toNat + 1)).length
          have := hp2.2
          rw [List.length_append, List.length_take, List.length_drop]; omega
        · show (h.ks.take kx.toNat ++ h.ks.drop (kx.toNat + 1)).length ≤ 4
          rw [List.length_append, List.length_take, List.length_drop]; omega
      · have s0 := sJ2.trans sC
        have hkC := s0 _ _ hk0
        have hzC := sC _ _ hhz2
        have rzC := rz2.mono (TupK.same sC)
        refine ⟨_, rfl, kp, _, rfl, .inr (SqT.of hkC), fun Lo hLo => ?_⟩
        have sLo := Same.new (o := .lst uk) hLo
        have aLo := upd_same (H := C) (a := Lo) (o := .lst uk)
        have s1 := s0.trans sLo
        have hzL := sLo _ _ hzC
        have rzL := rzC.mono (TupK.same sLo)
        have hLo3 : J3 Lo = none := s0.free hLo
        generalize upd C Lo (.lst uk) = C1 at s1 aLo hzL rzL ⊢
        clear sLo
        have hixj : ixN uk.length jx = some jx.toNat := by
          unfold ixN
          rw [if_pos jx0, if_pos (by omega)]
        have hixk : ixN uk.length kx = some kx.toNat := by
          unfold ixN
          rw [if_pos kx0, if_pos (by omega)]
        refine ⟨fun σ J => Same J3 J ∧ ∃ (hz : Addr) (uw us : List V) (hr : List (Str × List Ak.D)) (ks : List KpR), σ = [some (.ref d), some (.ref p), some (.ref a), some (.ref kp), some (.ref f0), some (.int kx), some (.int jx), some (.ref q), some (.int way), some (.ref hz), o10, o11, some (.ref Lo), none, none, none] ∧ J hz = some (.tup uw) ∧ Reps J (hr.map rowD) uw ∧ hr.length ≤ 7 ∧ J Lo = some (.lst us) ∧ Reps J (ks.map KpR.d) us ∧ ks.length = h.ks.length ∧ ∀ k ∈ ks, k.hs.length ≤ 7, ?_, fun σ J hw => ?_⟩
        · refine decS_if (decS_eqI rfl) (fun B sB _ => ?_) fun B sB _ => ⟨s1.trans sB, hz2, uw2, uk, hr2, h.ks, rfl, sB _ _ hzL, rzL.mono (TupK.same sB), lz2, sB _ _ aLo, rk0.mono (TupK.same (s1.trans sB)), rfl, fun k' hk' => Nat.le_trans (gd.h6 _ hk') (by decide)⟩
          have sB1 := s1.trans sB
          refine ⟨_, rfl, _, rfl, kp, _, jx, _, rfl, rfl, SqT.of (sB1 _ _ hk0), hatj, 5, rfl, ?_⟩
          refine slA_use (sB1 _ _ hqj0) fun p1 G1 g1 e1 => ⟨_, rfl, q, _, 5, _, rfl, rfl, SqT.of (g1 _ _ (sB1 _ _ hq0)), at_natc _ 5 rfl, by show 1 ≤ sizeLine; decide, fun t1 ht1 => ?_⟩
          have st1 := Same.new (o := .tup [V.ref hs]) ht1
          have e1 : G1 p1 = some (.tup [.str jr.n, va2, vb2, vc2, ve2]) := e1
          refine catA_use (st1 _ _ e1) upd_same (by show 5 + 1 ≤ 1000; decide) fun p3 G3 g3 e3 => ?_
          have gA := (g1.trans st1).trans g3
          have sA := sB1.trans gA
          have hLoA := gA _ _ (sB _ _ aLo)
          refine ⟨_, rfl, _, rfl, Lo, _, jx, jx.toNat, rfl, rfl, hLoA, hixj, ?_⟩
          have kU : ∀ b o, J3 b = some o → (upd G3 Lo (.lst (uk.set jx.toNat (.ref p3)))) b = some o := fun b o e => by rw [upd_ne (ne_of_none e hLo3)]; exact sA _ _ e
          have tkU : TupK J3 (upd G3 Lo (.lst (uk.set jx.toNat (.ref p3)))) := TupK.same kU
          have e3' : (upd G3 Lo (.lst (uk.set jx.toNat (.ref p3)))) p3 = some (.tup [.str jr.n, va2, vb2, vc2, ve2, .ref hs]) := by
            rw [upd_ne (ne_of e3 hLoA (by intro z; cases z))]; exact e3
          have rN : Rep (upd G3 Lo (.lst (uk.set jx.toNat (.ref p3)))) (KpR.d ⟨jr.n, jr.a, jr.b, jr.c, jr.e, kr.hs⟩) (.ref p3) :=
            ⟨p3, _, rfl, e3', Reps.cons rfl (Reps.cons ((ra2.mono tk).mono tkU) (Reps.cons ((rb2.mono tk).mono tkU) (Reps.cons ((rc2.mono tk).mono tkU) (Reps.cons ((re2.mono tk).mono tkU) (Reps.cons ⟨hs, _, rfl, kU _ _ hhs0, r1.mono tkU⟩ rfl)))))⟩
          refine ⟨_, rfl, _, rfl, kp, _, jx, _, rfl, rfl, SqT.of (kU _ _ hk0), hatj, qj, _, 5, _, rfl, rfl, SqT.of (kU _ _ hqj0), at_natc _ 5 rfl, ?_⟩
          refine ⟨kU, hsj, ws2, _, jr.hs, h.ks.set jx.toNat ⟨jr.n, jr.a, jr.b, jr.c, jr.e, kr.hs⟩, rfl, kU _ _ hhsj0, r2.mono tkU, by omega, upd_same, ?_, by rw [List.length_set], fun k' hk' => ?_⟩
          · rw [List.map_set]; exact reps_set rN _ (rk0.mono tkU)
          · rcases List.mem_or_eq_of_mem_set hk' with z | z
            · exact Nat.le_trans (gd.h6 _ z) (by decide)
            · rw [z]; exact Nat.le_trans l1 (by decide)
        · obtain ⟨sB, hz3, uw3, us3, hr3, ks3, rfl, hhz3, rz3, lz3, hLo9, rks, lks, b7⟩ := hw
          have lus : us3.length = ks3.length := by rw [Reps.len rks, List.length_map]
          have lus2 : us3.length = uk.length := by omega
          refine ⟨_, rfl, 5, rfl, ?_⟩
          refine slA_use (sB _ _ hq0) fun p1 G1 g1 e1 => ⟨_, rfl, by show 1 ≤ sizeLine; decide, fun t1 ht1 => ?_⟩
          have st1 := Same.new (o := .tup [V.ref hz3]) ht1
          have e1 : G1 p1 = some (.tup [.str kr.n, va, vb, vc, .ref pe]) := e1
          refine catA_use (st1 _ _ e1) upd_same (by show 5 + 1 ≤ 1000; decide) fun p3 G3 g3 e3 => ?_
          have gA := (g1.trans st1).trans g3
          have sA := sB.trans gA
          have hLoA := gA _ _ hLo9
          refine ⟨_, rfl, _, rfl, Lo, _, kx, kx.toNat, rfl, rfl, hLoA, by rw [lus2]; exact hixk, ?_⟩
          have kU : ∀ b o, J3 b = some o → (upd G3 Lo (.lst (us3.set kx.toNat (.ref p3)))) b = some o := fun b o e => by rw [upd_ne (ne_of_none e hLo3)]; exact sA _ _ e
          have tkU : TupK J3 (upd G3 Lo (.lst (us3.set kx.toNat (.ref p3)))) := TupK.same kU
          have tkG : TupK G3 (upd G3 Lo (.lst (us3.set kx.toNat (.ref p3)))) := fun z us e => by rw [upd_ne (ne_of e hLoA (by intro z; cases z))]; exact e
          have e3' := tkG _ _ e3
          have rN : Rep (upd G3 Lo (.lst (us3.set kx.toNat (.ref p3)))) (KpR.d ⟨kr.n, kr.a, kr.b, kr.c, kr.e, hr3⟩) (.ref p3) :=
            ⟨p3, _, rfl, e3', Reps.cons rfl (Reps.cons ((ra1.mono tk).mono tkU) (Reps.cons ((rb1.mono tk).mono tkU) (Reps.cons ((rc1.mono tk).mono tkU) (Reps.cons ((re1.mono tk).mono tkU) (Reps.cons ⟨hz3, _, rfl, tkG _ _ (gA _ _ hhz3), (rz3.mono (TupK.same gA)).mono tkG⟩ rfl)))))⟩
          have rK : Reps (upd G3 Lo (.lst (us3.set kx.toNat (.ref p3)))) ((ks3.set kx.toNat ⟨kr.n, kr.a, kr.b, kr.c, kr.e, hr3⟩).map KpR.d) (us3.set kx.toNat (.ref p3)) := by
            rw [List.map_set]; exact reps_set rN _ ((rks.mono (TupK.same gA)).mono tkG)
          have aL := upd_same (H := G3) (a := Lo) (o := .lst (us3.set kx.toNat (.ref p3)))
          generalize upd G3 Lo (.lst (us3.set kx.toNat (.ref p3))) = G4 at kU tkU rK aL ⊢
          refine ⟨_, rfl, _, rfl, Lo, _, rfl, .inl ⟨SqL.of aL, fun tt htt => ⟨_, rfl, by show 3 ≤ sizeLine; decide, fun t ht => ?_⟩⟩⟩
          have sT1 := Same.new (o := .tup (us3.set kx.toNat (.ref p3))) htt
          have sT2 := Same.new (o := .tup [V.ref a, .ref tt, .ref f0]) ht
          have sT := sT1.trans sT2
          have k9 : Same J3 (upd (upd G4 tt (.tup (us3.set kx.toNat (.ref p3)))) t (.tup [V.ref a, .ref tt, .ref f0])) := fun b o e => sT _ _ (kU b o e)
          refine k (.ref t) ⟨h.as, ks3.set kx.toNat ⟨kr.n, kr.a, kr.b, kr.c, kr.e, hr3⟩, h.fs⟩ _ ⟨t, _, rfl, upd_same, Reps.cons ⟨a, _, rfl, k9 _ _ ha0, ra0.mono (TupK.same k9)⟩ (Reps.cons ⟨tt, _, rfl, sT2 _ _ upd_same, rK.mono (TupK.same sT)⟩ (Reps.cons ⟨f0, _, rfl, k9 _ _ hf0, rf0.mono (TupK.same k9)⟩ rfl))⟩ ⟨gd.ok.1, ?_, gd.ok.2.2.1, fun kr' hk' => ?_⟩ ?_ ?_ (D3.same k9) (q13.trans (Kp.same k9))
          · show (ks3.set kx.toNat _).length ≤ 50
            rw [List.length_set]; omega
          · rcases List.mem_or_eq_of_mem_set hk' with z | z
            · exact Nat.le_trans (b7 _ z) (by decide)
            · rw [z]; exact Nat.le_trans lz3 (by decide)
          · show 1 ≤ (ks3.set kx.toNat _).length
            rw [List.length_set]; omega
          · show (ks3.set kx.toNat _).length ≤ 4
            rw [List.length_set]; omega
end
end Ak
namespace Ak
open PySem L2
local macro_rules | `(tactic| walk_at "no attr") => `(tactic| exact rwF_no _ _ _ (by decide +kernel) (by decide +kernel) (by decide +kernel))
/-! ### the law -/
abbrev st_law : Stmt := top 29
theorem sc_law : FnScope ["_law_script", "_law_deal_here", "_law_program", "_law_other", "_law_both", "_law_book_here", "_law_one", "_law_due"] ["_law_script"] (defScope st_law) := ⟨rfl, rfl, rfl, by decide +kernel, rfl, by decide +kernel, by decide +kernel⟩
def spLaw (K : PySem.W.Frag) : Sp := fun vs H Q _ => ∃ (a : Addr) (ns : List Int), vs = [.ref a] ∧ SqL K H a (ns.map V.int) ∧ ns.length ≤ 63 ∧ ∀ H', Q (.bl true) H'
theorem wrongV_scal (o o' : Option Nat) : scal (wrongV o) (wrongV o') = true := by cases o <;> cases o' <;> rfl
def HouOk (J : Hp) (x : V) : Prop := ∃ h : Hou, Rep J h.d x ∧ h.Ok ∧ h.ks.length ≤ 4
section
variable {P : Program} {w : World} {K : PySem.W.Frag} {mg : Str → Option Value} {base : Heap} {f1 f2 f3 f4 f5 f6 f7 f8 : Addr} {d1 d2 d3 d4 d5 d6 d7 d8 : FuncData}
theorem ok_law {f : Addr} {fd : FuncData} (D : Fn K mg "law" st_law ["_law_script"] f fd) (T : BltBk mg) (D_l_deal : Fn K mg "_law_deal" st_l_deal ["_law_script", "_law_base"] f1 d1) (G_l_deal : FnOk P w K mg base CX0 1 f1 d1 ["_law_script", "_law_base"] (spDeal K))
    (D_l_house : Fn K mg "_law_house" st_l_house ["_law_deal_here"] f2 d2) (G_l_house : FnOk P w K mg base CX0 3 f2 d2 ["_law_deal_here"] spHouse) (D_l_book : Fn K mg "_law_book" st_l_book ["_law_deal_here", "_law_program", "_law_many"] f3 d3) (G_l_book : FnOk P w K mg base CX0 3 f3 d3 ["_law_deal_here", "_law_program", "_law_many"] spBook)
    (D_l_draw : Fn K mg "_law_draw" st_l_draw ["_law_deal_here", "_law_many"] f4 d4) (G_l_draw : FnOk P w K mg base CX0 1 f4 d4 ["_law_deal_here", "_law_many"] spDraw) (D_l_other_house : Fn K mg "_law_other_house" st_l_other_house ["_law_deal_here", "_law_program"] f5 d5) (G_l_other_house : FnOk P w K mg base CX0 2 f5 d5 ["_law_deal_here", "_law_program"] spOH)
    (D_l_summed_right : Fn K mg "_law_summed_right" st_l_summed_right ["_law_program", "_law_book_here"] f6 d6) (G_l_summed_right : FnOk P w K mg base CX0 6 f6 d6 ["_law_program", "_law_book_here"] spRight) (D_l_first_wrong : Fn K mg "_law_first_wrong" st_l_first_wrong ["_law_program", "_law_book_here"] f7 d7) (G_l_first_wrong : FnOk P w K mg base CX0 2 f7 d7 ["_law_program", "_law_book_here"] spFirst)
    (D_l_refused_at : Fn K mg "_law_refused_at" st_l_refused_at ["_law_program", "_law_book_here"] f8 d8) (G_l_refused_at : FnOk P w K mg base CX0 6 f8 d8 ["_law_program", "_law_book_here"] spRef) : FnOk P w K mg base CX0 7 f fd ["_law_script"] (spLaw K) := by
  refine D.F.ok sc_law (fun vs H Q E h => ?_) (fun cdv A outer s H vs Q E hr h => ?_)
  · obtain ⟨a, ns, rfl, _⟩ := h
    rfl
  · obtain ⟨a, ns, rfl, hS, hlen, k⟩ := h
    refine ⟨_, (pss_cons (ps_set (i := 1) sc_law.nd rfl (Or.inl rfl) (pe_call G_l_deal (hr.mono (by decide)) rfl D_l_deal.mg D_l_deal.kp D_l_deal.b .nil pass0 (pa_cons (pv 0) (pa_cons pe_int pa_nil))))
      (pss_cons (ps_set (i := 2) sc_law.nd rfl (Or.inl rfl) (pe_call G_l_house (hr.mono (by decide)) rfl D_l_house.mg D_l_house.kp D_l_house.b .nil pass0 (pa_cons (pv 1) pa_nil)))
      (pss_cons (ps_set (i := 3) sc_law.nd rfl (Or.inl rfl) (pe_call G_l_other_house (hr.mono (by decide)) rfl D_l_other_house.mg D_l_other_house.kp D_l_other_house.b .nil pass0 (pa_cons (pv 1) (pa_cons (pv 2) pa_nil))))
      (pss_cons (ps_set (i := 4) sc_law.nd rfl (Or.inl rfl) (pe_lst (pa_cons (pv 2) (pa_cons (pv 3) pa_nil))))
      (pss_cons (ps_set (i := 5) sc_law.nd rfl (Or.inl rfl) (pe_call G_l_book (hr.mono (by decide)) rfl D_l_book.mg D_l_book.kp D_l_book.b .nil pass0 (pa_cons (pv 1) (pa_cons (pe_ix ix_list (pv 4) (pe_call G_l_draw (hr.mono (by decide)) rfl D_l_draw.mg D_l_draw.kp D_l_draw.b .nil pass0 (pa_cons (pv 1) (pa_cons pe_int pa_nil))) (fun _ _ => rfl)) (pa_cons (pe_op op_add (pe_op op_add pe_int (pe_call G_l_draw (hr.mono (by decide)) rfl D_l_draw.mg D_l_draw.kp D_l_draw.b .nil pass0 (pa_cons (pv 1) (pa_cons pe_int pa_nil)))) (pe_callB call_len_seq (by rfl) T.len (by decide +kernel) (pa_cons (pe_slice sl_list (pv 0) po_none (po_some pe_int)) pa_nil))) pa_nil)))))
      (pss_cons (ps_for PassesOwn.never rfl (pi_list (pe_lst (pa_cons (pv 2) (pa_cons (pv 3) (pa_cons (pv 2) (pa_cons (pv 3) pa_nil)))))) (pg_name (i := 6) sc_law.nd rfl (Or.inl rfl)) (pss_cons (ps_set (i := 7) sc_law.nd rfl (Or.inl rfl) (pe_call G_l_first_wrong (hr.mono (by decide)) rfl D_l_first_wrong.mg D_l_first_wrong.kp D_l_first_wrong.b .nil pass0 (pa_cons (pv 6) (pa_cons (pv 5) pa_nil))))
      (pss_cons (ps_if (pt_cmpR op_ne (pe_call G_l_refused_at (hr.mono (by decide)) rfl D_l_refused_at.mg D_l_refused_at.kp D_l_refused_at.b .nil pass0 (pa_cons (pv 6) (pa_cons (pv 5) pa_nil))) (pv 7) (nomark _)) (pss_one (ps_ret pe_bl)) pss_nil)
      (pss_one (ps_if (PW.pt (pw_and (pt_cmpR op_isN (pv 7) pe_non (nomark _)) (pw_and1 (pt_not (pt_val (pe_call G_l_summed_right (hr.mono (by decide)) rfl D_l_summed_right.mg D_l_summed_right.kp D_l_summed_right.b .nil pass0 (pa_cons (pv 6) (pa_cons (pv 5) pa_nil)))))))) (pss_one (ps_ret pe_bl)) pss_nil)))))
      (pss_one (ps_ret pe_bl)))))))), ?_⟩
    refine ⟨_, rfl, a, ns, 0, rfl, hS, by omega, by decide, by decide, fun d l H1 hd hl D1 s1 => ?_⟩
    refine ⟨_, rfl, d, l, rfl, D1, fun v h J hv gd D2 k2 => ⟨_, rfl, _, rfl, d, l, v, h, rfl, D2, hv, gd, fun v2 h2 J' hv2 ok2 a21 a24 D2' k2' => ?_⟩⟩
    have kpH : ∀ {G : Hp}, Kp d l H1 G → Same H G := fun kk b o e => kk b o (s1 b o e) (ne_of_none e hd) (ne_of_none e hl)
    have k22 := k2.trans k2'
    have hv' := hv.mono (kp_tup D2 k2')
    refine ⟨_, rfl, _, rfl, by show 2 ≤ sizeLine; decide, fun bo hbo => ?_⟩
    have sb := Same.new (o := .lst [v, v2]) hbo
    have ab := upd_same (H := J') (a := bo) (o := .lst [v, v2])
    have D3 := D2'.same sb
    have nbo := D2'.new hbo
    have k3 := k22.trans (Kp.same sb)
    have hv3 := hv'.mono (TupK.same sb)
    have hw3 := hv2.mono (TupK.same sb)
    generalize upd J' bo (.lst [v, v2]) = J3 at ab D3 k3 hv3 hw3 ⊢
    refine ⟨_, rfl, _, rfl, _, rfl, d, l, 2, rfl, D3, by decide, by decide, fun r J4 r0 r1 D4 k4 => ?_⟩
    have hv4 := hv3.mono (kp_tup D3 k4)
    have hw4 := hw3.mono (kp_tup D3 k4)
    obtain ⟨vx, hx, exx, rx, okx, kx1⟩ : ∃ (vx : V) (hx : Hou), atI [v, v2] r = some vx ∧ Rep J4 hx.d vx ∧ hx.Ok ∧ 1 ≤ hx.ks.length := by
      have : r = 0 ∨ r = 1 := by omega
      rcases this with rfl | rfl
      · exact ⟨v, h, rfl, hv4, gd.ok, gd.k1⟩
      · exact ⟨v2, h2, rfl, hw4, ok2, a21⟩
    refine ⟨bo, _, r, _, rfl, rfl, SqL.of (k4 _ _ ab nbo.1 nbo.2), exx, _, rfl, d, l, 30, rfl, D4, by decide, by decide, fun r' J5 r0' r1' D5 k5 => ⟨_, _, rfl, rfl, ?_⟩⟩
    have k15 := (k3.trans k4).trans k5
    refine ⟨_, rfl, 60, rfl, a, _, rfl, (kpH k15).seq hS, fun q hq => ⟨q, _, rfl, .inl (SqL.of upd_same), _, _, rfl, rfl, ?_⟩⟩
    have cl2 : (cutV (ns.map V.int) none (some 60)).length ≤ 60 := by
      rw [show (some (60 : Int)) = some ((60 : Nat) : Int) from rfl, cut_toC, List.length_take]; omega
    obtain ⟨n, en, hn⟩ : ∃ n : Nat, 1 + r' + ((cutV (ns.map V.int) none (some 60)).length : Int) = (n : Int) ∧ n ≤ 90 ∧ 1 ≤ n := ⟨(1 + r' + ((cutV (ns.map V.int) none (some 60)).length : Int)).toNat, by omega, by omega, by omega⟩
    have sq := Same.new (o := .lst (cutV (ns.map V.int) none (some 60))) hq
    refine ⟨d, l, vx, hx, n, by rw [← en]; rfl, D5.same sq, (rx.mono (kp_tup D4 k5)).mono (TupK.same sq), okx, kx1, by omega, fun b us rs J6 hb0 hb hus lr _ _ D6 k6 => ?_⟩
    have t46 : TupK J4 J6 := fun p xs e => kp_tup (D5.same sq) k6 _ _ (sq _ _ (kp_tup D4 k5 _ _ e))
    have hv6 := hv4.mono t46
    have hw6 := hw4.mono t46
    refine ⟨_, rfl, _, rfl, _, rfl, _, rfl, by show 4 ≤ sizeLine; decide, fun L hL => ⟨L, rfl, ⟨_, SqL.of upd_same⟩, ?_⟩⟩
    have sL := Same.new (o := .lst [v, v2, v, v2]) hL
    have aL := upd_same (H := J6) (a := L) (o := .lst [v, v2, v, v2])
    have all4 : ∀ x ∈ [v, v2, v, v2], HouOk (upd J6 L (.lst [v, v2, v, v2])) x := by
      have p1 : HouOk (upd J6 L (.lst [v, v2, v, v2])) v := ⟨h, hv6.mono (TupK.same sL), gd.ok, gd.k2⟩
      have p2 : HouOk (upd J6 L (.lst [v, v2, v, v2])) v2 := ⟨h2, hw6.mono (TupK.same sL), ok2, a24⟩
      intro x hx
      simp only [List.mem_cons, List.not_mem_nil, or_false] at hx
      rcases hx with rfl | rfl | rfl | rfl
      · exact p1
      · exact p2
      · exact p1
      · exact p2
    have hbL := sL _ _ hb
    have husL := hus.mono (TupK.same sL)
    generalize upd J6 L (.lst [v, v2, v, v2]) = J7 at all4 aL hbL husL ⊢
    generalize [v, v2, v, v2] = ls at all4 aL
    refine for_list (xs := ls) (fun i σ J => Same J7 J ∧ ∃ o6 o7, σ = [some (.ref a), some (.ref d), some v, some v2, some (.ref bo), some (.ref b), o6, o7]) ⟨Same.refl _, _, _, rfl⟩ (fun i σ J _ q => SqL.of (q.1 _ _ aL)) (fun i x σ J hx q => ?_) fun σ J q => ?_
    · obtain ⟨sm, o6, o7, rfl⟩ := q
      obtain ⟨hh, e2, e3, e4⟩ := all4 x (List.mem_of_getElem? hx)
      have lm4 : hh.m.length ≤ 4 := Nat.le_trans (hdK_len _) e4
      have rm : RoomW hh.m ⟨[], []⟩ rs := room_B lm4 rs _ 0 PB_nil (KnS.nil _) (by omega)
      have go : ∀ {J' : Hp}, Same J J' → Rep J' hh.d x ∧ J' b = some (.lst us) ∧ Reps J' (rs.map BR.d) us := fun sJ => ⟨e2.mono (TupK.same (sm.trans sJ)), sJ _ _ (sm _ _ hbL), husL.mono (TupK.same (sm.trans sJ))⟩
      obtain ⟨g1, g2, g3⟩ := go (Same.refl J)
      refine ⟨_, rfl, _, rfl, x, b, us, hh, rs, rfl, g1, e3, g2, g3, by omega, rm, fun C sC => ?_⟩
      obtain ⟨g1, g2, g3⟩ := go sC
      refine ⟨_, rfl, _, rfl, x, b, us, hh, rs, rfl, g1, e3, g2, g3, by omega, rm, fun C2 sC2 => ?_⟩
      refine ⟨_, rfl, wrongV_scal _ _, _, rfl, ?_⟩
      rw [decide_eq_true (rfl : wrongV (firstW hh.m ⟨[], []⟩ rs 0) = wrongV (firstW hh.m ⟨[], []⟩ rs 0))]
      refine iteF ?_
      have s2 := sC.trans sC2
      obtain ⟨g1, g2, g3⟩ := go s2
      cases efw : firstW hh.m ⟨[], []⟩ rs 0 with
      | some i0 => exact ⟨_, rfl, rfl, _, rfl, iteF ⟨sm.trans s2, _, _, rfl⟩⟩
      | none =>
        refine ⟨_, rfl, rfl, _, rfl, iteT ⟨_, rfl, _, rfl, x, b, us, hh, rs, rfl, g1, e3, g2, g3, by omega, rm, efw, fun C3 sC3 => ?_⟩⟩
        exact ⟨_, rfl, iteF ⟨(sm.trans s2).trans sC3, _, _, rfl⟩⟩
    · exact k _
end
end Ak
namespace Ak
open PySem L2
local macro_rules | `(tactic| walk_at "no attr") => `(tactic| exact rwF_no _ _ _ (by decide +kernel) (by decide +kernel) (by decide +kernel))
set_option maxHeartbeats 1000000 in
theorem law_ok {P : Program} {w : World} {K : PySem.W.Frag} {mg : Str → Option Value} {base : Heap} {CK CS AE CN CP CB CT CR fN : Addr} {dN : FuncData} {t : Tok}
    {f_check_book f_summed f_l_deal f_l_draw f_l_words f_l_house f_l_heard f_l_goes f_l_first_wrong f_l_row f_l_book f_l_refused_at f_l_sums f_l_whole f_l_summed_right f_l_other_house f_law f_kn_init f_sd_init f_sd_hears f_sd_lets f_sd_do : Addr} {d_check_book d_summed d_l_deal d_l_draw d_l_words d_l_house d_l_heard d_l_goes d_l_first_wrong d_l_row d_l_book d_l_refused_at d_l_sums d_l_whole d_l_summed_right d_l_other_house d_law d_kn_init d_sd_init d_sd_hears d_sd_lets d_sd_do : FuncData}
    (D_check_book : Fn K mg "check_book" st_check_book ["program", "book"] f_check_book d_check_book)
    (D_summed : Fn K mg "summed" st_summed ["program", "book"] f_summed d_summed)
    (D_l_deal : Fn K mg "_law_deal" st_l_deal ["_law_script", "_law_base"] f_l_deal d_l_deal)
    (D_l_draw : Fn K mg "_law_draw" st_l_draw ["_law_deal_here", "_law_many"] f_l_draw d_l_draw)
    (D_l_words : Fn K mg "_law_words" st_l_words ["_law_deal_here", "_law_many"] f_l_words d_l_words)
    (D_l_house : Fn K mg "_law_house" st_l_house ["_law_deal_here"] f_l_house d_l_house)
    (D_l_heard : Fn K mg "_law_heard" st_l_heard ["_law_program"] f_l_heard d_l_heard)
    (D_l_goes : Fn K mg "_law_goes" st_l_goes ["_law_heard_here", "_law_stands", "_law_holds", "_law_row_here"] f_l_goes d_l_goes)
    (D_l_first_wrong : Fn K mg "_law_first_wrong" st_l_first_wrong ["_law_program", "_law_book_here"] f_l_first_wrong d_l_first_wrong)
    (D_l_row : Fn K mg "_law_row" st_l_row ["_law_deal_here", "_law_heard_here", "_law_stands", "_law_holds"] f_l_row d_l_row)
    (D_l_book : Fn K mg "_law_book" st_l_book ["_law_deal_here", "_law_program", "_law_many"] f_l_book d_l_book)
    (D_l_refused_at : Fn K mg "_law_refused_at" st_l_refused_at ["_law_program", "_law_book_here"] f_l_refused_at d_l_refused_at)
    (D_l_sums : Fn K mg "_law_sums" st_l_sums ["_law_program", "_law_book_here"] f_l_sums d_l_sums)
    (D_l_whole : Fn K mg "_law_whole" st_l_whole ["_law_number"] f_l_whole d_l_whole)
    (D_l_summed_right : Fn K mg "_law_summed_right" st_l_summed_right ["_law_program", "_law_book_here"] f_l_summed_right d_l_summed_right)
    (D_l_other_house : Fn K mg "_law_other_house" st_l_other_house ["_law_deal_here", "_law_program"] f_l_other_house d_l_other_house)
    (D_law : Fn K mg "law" st_law ["_law_script"] f_law d_law)
    (D_kn_init : Md K CK "__init__" "Known.__init__" st_kn_init ["self", "program"] f_kn_init d_kn_init)
    (D_sd_init : Md K CS "__init__" "Standing.__init__" st_sd_init ["self", "program"] f_sd_init d_sd_init)
    (D_sd_hears : Md K CS "hears_at" "Standing.hears_at" st_sd_hears ["self", "q", "n"] f_sd_hears d_sd_hears)
    (D_sd_lets : Md K CS "lets_by" "Standing.lets_by" st_sd_lets ["self", "row"] f_sd_lets d_sd_lets)
    (D_sd_do : Md K CS "do_row" "Standing.do_row" st_sd_do ["self", "row"] f_sd_do d_sd_do)
    (TD : BltD mg) (TB : BltBk mg) (TK : BltKn K CK) (TS : BltSt K mg CS CK f_kn_init t) (TM : BltSm K mg CS f_sd_init) (TW : BltWh K mg) (TC : BltCk K mg CS f_sd_init) (EK : ErrK K mg AE CN CP CB CT CR)
    (oc : OexC K CB) (iC : PySem.W.findIn K (.ref CB) "__init__" = some (some (.ref fN))) (tI : PySem.W.typeIn K (.ref fN) = some (.type "function")) (bN : Binds K dN ["self", "at"] []) (FN : Fun K "__init__" "NoBook.__init__" st_nb_init fN dN) :
    FnOk P w K mg base CX0 7 f_law d_law ["_law_script"] (spLaw K) := by
  have N : ErrB P w K mg base CB fN dN := ⟨oc, iC, tI, bN, EK.mCB, ok_nb_init FN oc EK.nr⟩
  have G_l_deal : FnOk P w K mg base CX0 1 f_l_deal d_l_deal ["_law_script", "_law_base"] (spDeal K) := ok_deal D_l_deal TD
  have G_l_draw : FnOk P w K mg base CX0 1 f_l_draw d_l_draw ["_law_deal_here", "_law_many"] (spDraw) := ok_draw D_l_draw TD
  have G_l_words : FnOk P w K mg base CX0 2 f_l_words d_l_words ["_law_deal_here", "_law_many"] (spWds) := ok_wds D_l_words TB D_l_draw G_l_draw
  have G_l_house : FnOk P w K mg base CX0 3 f_l_house d_l_house ["_law_deal_here"] (spHouse) := ok_l_house D_l_house TB D_l_words G_l_words D_l_draw G_l_draw
  have G_l_heard : FnOk P w K mg base CX0 1 f_l_heard d_l_heard ["_law_program"] (spHeard) := ok_l_heard D_l_heard
  have G_l_goes : FnOk P w K mg base CX0 1 f_l_goes d_l_goes ["_law_heard_here", "_law_stands", "_law_holds", "_law_row_here"] (spGoes) := ok_l_goes D_l_goes TB
  have G_l_first_wrong : FnOk P w K mg base CX0 2 f_l_first_wrong d_l_first_wrong ["_law_program", "_law_book_here"] (spFirst) := ok_l_first_wrong D_l_first_wrong TB D_l_heard G_l_heard D_l_goes G_l_goes
  have G_kn_init : FnOk P w K mg base CX0 1 f_kn_init d_kn_init ["self", "program"] (spKnown CK) := ok_kn_init D_kn_init TK
  have G_sd_init : FnOk P w K mg base CX0 3 f_sd_init d_sd_init ["self", "program"] (spStInit CS) := ok_sd_init D_sd_init TS D_kn_init G_kn_init
  have G_sd_hears : FnOk P w K mg base CX0 1 f_sd_hears d_sd_hears ["self", "q", "n"] (spHearsAt CS) := ok_sd_hears D_sd_hears TS
  have G_sd_lets : FnOk P w K mg base CX0 2 f_sd_lets d_sd_lets ["self", "row"] (spLets CS) := ok_sd_lets D_sd_lets TS D_sd_hears G_sd_hears
  have G_sd_do : FnOk P w K mg base CX0 1 f_sd_do d_sd_do ["self", "row"] (spDo CS) := ok_sd_do D_sd_do TS
  have G_check_book : FnOk P w K mg base (L2.CX P w) 5 f_check_book d_check_book ["program", "book"] (spCheck CB) := ok_check_book D_check_book TC N D_sd_init G_sd_init D_sd_lets G_sd_lets D_sd_do G_sd_do
  have G_l_refused_at : FnOk P w K mg base CX0 6 f_l_refused_at d_l_refused_at ["_law_program", "_law_book_here"] (spRef) := ok_l_refused_at D_l_refused_at EK D_check_book G_check_book
  have G_l_row : FnOk P w K mg base CX0 2 f_l_row d_l_row ["_law_deal_here", "_law_heard_here", "_law_stands", "_law_holds"] (spRow) := ok_l_row D_l_row TB D_l_draw G_l_draw
  have G_l_book : FnOk P w K mg base CX0 3 f_l_book d_l_book ["_law_deal_here", "_law_program", "_law_many"] (spBook) := ok_l_book D_l_book TB D_l_heard G_l_heard D_l_goes G_l_goes D_l_row G_l_row
  have G_summed : FnOk P w K mg base CX0 5 f_summed d_summed ["program", "book"] (spSums) := ok_summed D_summed TM D_sd_init G_sd_init D_sd_do G_sd_do
  have G_l_sums : FnOk P w K mg base CX0 2 f_l_sums d_l_sums ["_law_program", "_law_book_here"] (spSums) := ok_l_sums D_l_sums TB D_l_heard G_l_heard D_l_goes G_l_goes
  have G_l_whole : FnOk P w K mg base CX0 1 f_l_whole d_l_whole ["_law_number"] (spWhole) := ok_l_whole D_l_whole TW
  have G_l_summed_right : FnOk P w K mg base CX0 6 f_l_summed_right d_l_summed_right ["_law_program", "_law_book_here"] (spRight) := ok_l_right D_l_summed_right TW D_summed G_summed D_l_sums G_l_sums D_l_whole G_l_whole
  have G_l_other_house : FnOk P w K mg base CX0 2 f_l_other_house d_l_other_house ["_law_deal_here", "_law_program"] (spOH) := ok_l_oh D_l_other_house TB D_l_draw G_l_draw
  exact ok_law D_law TB D_l_deal G_l_deal D_l_house G_l_house D_l_book G_l_book D_l_draw G_l_draw D_l_other_house G_l_other_house D_l_summed_right G_l_summed_right D_l_first_wrong G_l_first_wrong D_l_refused_at G_l_refused_at
end Ak
namespace Ak
open PySem L2
local macro_rules | `(tactic| walk_at "no attr") => `(tactic| exact rwF_no _ _ _ (by decide +kernel) (by decide +kernel) (by decide +kernel))
set_option maxHeartbeats 0 in
theorem all_mk {l : PySem.W.OpenLaw} {w : World} {K : PySem.W.Frag} {h : Heap} {mg : Str → Option Value} {fa CK CS : Addr} {tt : Tok} (X : K.In h) (G : h.Ns mainGlobals mg) (hfa : mg "law" = some (.ref fa))
    {f_check_book f_summed f_l_deal f_l_draw f_l_words f_l_house f_l_heard f_l_goes f_l_first_wrong f_l_row f_l_book f_l_refused_at f_l_sums f_l_whole f_l_summed_right f_l_other_house f_law f_kn_init f_sd_init f_sd_hears f_sd_lets f_sd_do : Addr} {od_check_book an_check_book od_summed an_summed od_l_deal an_l_deal od_l_draw an_l_draw od_l_words an_l_words od_l_house an_l_house od_l_heard an_l_heard od_l_goes an_l_goes od_l_first_wrong an_l_first_wrong od_l_row an_l_row od_l_book an_l_book od_l_refused_at an_l_refused_at od_l_sums an_l_sums od_l_whole an_l_whole od_l_summed_right an_l_summed_right od_l_other_house an_l_other_house od_law an_law od_kn_init an_kn_init od_sd_init an_sd_init od_sd_hears an_sd_hears od_sd_lets an_sd_lets od_sd_do an_sd_do : Option Addr} {sl_check_book sl_summed sl_l_deal sl_l_draw sl_l_words sl_l_house sl_l_heard sl_l_goes sl_l_first_wrong sl_l_row sl_l_book sl_l_refused_at sl_l_sums sl_l_whole sl_l_summed_right sl_l_other_house sl_law sl_kn_init sl_sd_init sl_sd_hears sl_sd_lets sl_sd_do : Array (Option Value)} {oc_check_book kV_check_book dc_check_book pm_check_book cd_check_book ct_check_book oc_summed kV_summed dc_summed pm_summed cd_summed ct_summed oc_l_deal kV_l_deal dc_l_deal pm_l_deal cd_l_deal ct_l_deal oc_l_draw kV_l_draw dc_l_draw pm_l_draw cd_l_draw ct_l_draw oc_l_words kV_l_words dc_l_words pm_l_words cd_l_words ct_l_words oc_l_house kV_l_house dc_l_house pm_l_house cd_l_house ct_l_house oc_l_heard kV_l_heard dc_l_heard pm_l_heard cd_l_heard ct_l_heard oc_l_goes kV_l_goes dc_l_goes pm_l_goes cd_l_goes ct_l_goes oc_l_first_wrong kV_l_first_wrong dc_l_first_wrong pm_l_first_wrong cd_l_first_wrong ct_l_first_wrong oc_l_row kV_l_row dc_l_row pm_l_row cd_l_row ct_l_row oc_l_book kV_l_book dc_l_book pm_l_book cd_l_book ct_l_book oc_l_refused_at kV_l_refused_at dc_l_refused_at pm_l_refused_at cd_l_refused_at ct_l_refused_at oc_l_sums kV_l_sums dc_l_sums pm_l_sums cd_l_sums ct_l_sums oc_l_whole kV_l_whole dc_l_whole pm_l_whole cd_l_whole ct_l_whole oc_l_summed_right kV_l_summed_right dc_l_summed_right pm_l_summed_right cd_l_summed_right ct_l_summed_right oc_l_other_house kV_l_other_house dc_l_other_house pm_l_other_house cd_l_other_house ct_l_other_house oc_law kV_law dc_law pm_law cd_law ct_law oc_kn_init kV_kn_init dc_kn_init pm_kn_init cd_kn_init ct_kn_init oc_sd_init kV_sd_init dc_sd_init pm_sd_init cd_sd_init ct_sd_init oc_sd_hears kV_sd_hears dc_sd_hears pm_sd_hears cd_sd_hears ct_sd_hears oc_sd_lets kV_sd_lets dc_sd_lets pm_sd_lets cd_sd_lets ct_sd_lets oc_sd_do kV_sd_do dc_sd_do pm_sd_do cd_sd_do ct_sd_do : Value}
    (a_check_book : PySem.W.nsIn K mainGlobals "check_book" = some (some (.ref f_check_book)))
    (l_check_book : K.lookup f_check_book = some ⟨oc_check_book, od_check_book, .func (PySem.W.fnOf "check_book" "check_book" (defArgs st_check_book) (defBody st_check_book) (defScope st_check_book) .none kV_check_book dc_check_book pm_check_book an_check_book cd_check_book ct_check_book), sl_check_book⟩)
    (c_check_book : PySem.W.codeIn K cd_check_book "check_book" = true)
    (k_check_book : PySem.W.keepIn K (.ref f_check_book) = true)
    (a_summed : PySem.W.nsIn K mainGlobals "summed" = some (some (.ref f_summed)))
    (l_summed : K.lookup f_summed = some ⟨oc_summed, od_summed, .func (PySem.W.fnOf "summed" "summed" (defArgs st_summed) (defBody st_summed) (defScope st_summed) .none kV_summed dc_summed pm_summed an_summed cd_summed ct_summed), sl_summed⟩)
    (c_summed : PySem.W.codeIn K cd_summed "summed" = true)
    (k_summed : PySem.W.keepIn K (.ref f_summed) = true)
    (a_l_deal : PySem.W.nsIn K mainGlobals "_law_deal" = some (some (.ref f_l_deal)))
    (l_l_deal : K.lookup f_l_deal = some ⟨oc_l_deal, od_l_deal, .func (PySem.W.fnOf "_law_deal" "_law_deal" (defArgs st_l_deal) (defBody st_l_deal) (defScope st_l_deal) .none kV_l_deal dc_l_deal pm_l_deal an_l_deal cd_l_deal ct_l_deal), sl_l_deal⟩)
    (c_l_deal : PySem.W.codeIn K cd_l_deal "_law_deal" = true)
    (k_l_deal : PySem.W.keepIn K (.ref f_l_deal) = true)
    (a_l_draw : PySem.W.nsIn K mainGlobals "_law_draw" = some (some (.ref f_l_draw)))
    (l_l_draw : K.lookup f_l_draw = some ⟨oc_l_draw, od_l_draw, .func (PySem.W.fnOf "_law_draw" "_law_draw" (defArgs st_l_draw) (defBody st_l_draw) (defScope st_l_draw) .none kV_l_draw dc_l_draw pm_l_draw an_l_draw cd_l_draw ct_l_draw), sl_l_draw⟩)
    (c_l_draw : PySem.W.codeIn K cd_l_draw "_law_draw" = true)
    (k_l_draw : PySem.W.keepIn K (.ref f_l_draw) = true)
    (a_l_words : PySem.W.nsIn K mainGlobals "_law_words" = some (some (.ref f_l_words)))
    (l_l_words : K.lookup f_l_words = some ⟨oc_l_words, od_l_words, .func (PySem.W.fnOf "_law_words" "_law_words" (defArgs st_l_words) (defBody st_l_words) (defScope st_l_words) .none kV_l_words dc_l_words pm_l_words an_l_words cd_l_words ct_l_words), sl_l_words⟩)
    (c_l_words : PySem.W.codeIn K cd_l_words "_law_words" = true)
    (k_l_words : PySem.W.keepIn K (.ref f_l_words) = true)
    (a_l_house : PySem.W.nsIn K mainGlobals "_law_house" = some (some (.ref f_l_house)))
    (l_l_house : K.lookup f_l_house = some ⟨oc_l_house, od_l_house, .func (PySem.W.fnOf "_law_house" "_law_house" (defArgs st_l_house) (defBody st_l_house) (defScope st_l_house) .none kV_l_house dc_l_house pm_l_house an_l_house cd_l_house ct_l_house), sl_l_house⟩)
    (c_l_house : PySem.W.codeIn K cd_l_house "_law_house" = true)
    (k_l_house : PySem.W.keepIn K (.ref f_l_house) = true)
    (a_l_heard : PySem.W.nsIn K mainGlobals "_law_heard" = some (some (.ref f_l_heard)))
    (l_l_heard : K.lookup f_l_heard = some ⟨oc_l_heard, od_l_heard, .func (PySem.W.fnOf "_law_heard" "_law_heard" (defArgs st_l_heard) (defBody st_l_heard) (defScope st_l_heard) .none kV_l_heard dc_l_heard pm_l_heard an_l_heard cd_l_heard ct_l_heard), sl_l_heard⟩)
    (c_l_heard : PySem.W.codeIn K cd_l_heard "_law_heard" = true)
    (k_l_heard : PySem.W.keepIn K (.ref f_l_heard) = true)
    (a_l_goes : PySem.W.nsIn K mainGlobals "_law_goes" = some (some (.ref f_l_goes)))
    (l_l_goes : K.lookup f_l_goes = some ⟨oc_l_goes, od_l_goes, .func (PySem.W.fnOf "_law_goes" "_law_goes" (defArgs st_l_goes) (defBody st_l_goes) (defScope st_l_goes) .none kV_l_goes dc_l_goes pm_l_goes an_l_goes cd_l_goes ct_l_goes), sl_l_goes⟩)
    (c_l_goes : PySem.W.codeIn K cd_l_goes "_law_goes" = true)
    (k_l_goes : PySem.W.keepIn K (.ref f_l_goes) = true)
    (a_l_first_wrong : PySem.W.nsIn K mainGlobals "_law_first_wrong" = some (some (.ref f_l_first_wrong)))
    (l_l_first_wrong : K.lookup f_l_first_wrong = some ⟨oc_l_first_wrong, od_l_first_wrong, .func (PySem.W.fnOf "_law_first_wrong" "_law_first_wrong" (defArgs st_l_first_wrong) (defBody st_l_first_wrong) (defScope st_l_first_wrong) .none kV_l_first_wrong dc_l_first_wrong pm_l_first_wrong an_l_first_wrong cd_l_first_wrong ct_l_first_wrong), sl_l_first_wrong⟩)
    (c_l_first_wrong : PySem.W.codeIn K cd_l_first_wrong "_law_first_wrong" = true)
    (k_l_first_wrong : PySem.W.keepIn K (.ref f_l_first_wrong) = true)
    (a_l_row : PySem.W.nsIn K mainGlobals "_law_row" = some (some (.ref f_l_row)))
    (l_l_row : K.lookup f_l_row = some ⟨oc_l_row, od_l_row, .func (PySem.W.fnOf "_law_row" "_law_row" (defArgs st_l_row) (defBody st_l_row) (defScope st_l_row) .none kV_l_row dc_l_row pm_l_row an_l_row cd_l_row ct_l_row), sl_l_row⟩)
    (c_l_row : PySem.W.codeIn K cd_l_row "_law_row" = true)
    (k_l_row : PySem.W.keepIn K (.ref f_l_row) = true)
    (a_l_book : PySem.W.nsIn K mainGlobals "_law_book" = some (some (.ref f_l_book)))
    (l_l_book : K.lookup f_l_book = some ⟨oc_l_book, od_l_book, .func (PySem.W.fnOf "_law_book" "_law_book" (defArgs st_l_book) (defBody st_l_book) (defScope st_l_book) .none kV_l_book dc_l_book pm_l_book an_l_book cd_l_book ct_l_book), sl_l_book⟩)
    (c_l_book : PySem.W.codeIn K cd_l_book "_law_book" = true)
    (k_l_book : PySem.W.keepIn K (.ref f_l_book) = true)
    (a_l_refused_at : PySem.W.nsIn K mainGlobals "_law_refused_at" = some (some (.ref f_l_refused_at)))
    (l_l_refused_at : K.lookup f_l_refused_at = some ⟨oc_l_refused_at, od_l_refused_at, .func (PySem.W.fnOf "_law_refused_at" "_law_refused_at" (defArgs st_l_refused_at) (defBody st_l_refused_at) (defScope st_l_refused_at) .none kV_l_refused_at dc_l_refused_at pm_l_refused_at an_l_refused_at cd_l_refused_at ct_l_refused_at), sl_l_refused_at⟩)
    (c_l_refused_at : PySem.W.codeIn K cd_l_refused_at "_law_refused_at" = true)
    (k_l_refused_at : PySem.W.keepIn K (.ref f_l_refused_at) = true)
    (a_l_sums : PySem.W.nsIn K mainGlobals "_law_sums" = some (some (.ref f_l_sums)))
    (l_l_sums : K.lookup f_l_sums = some ⟨oc_l_sums, od_l_sums, .func (PySem.W.fnOf "_law_sums" "_law_sums" (defArgs st_l_sums) (defBody st_l_sums) (defScope st_l_sums) .none kV_l_sums dc_l_sums pm_l_sums an_l_sums cd_l_sums ct_l_sums), sl_l_sums⟩)
    (c_l_sums : PySem.W.codeIn K cd_l_sums "_law_sums" = true)
    (k_l_sums : PySem.W.keepIn K (.ref f_l_sums) = true)
    (a_l_whole : PySem.W.nsIn K mainGlobals "_law_whole" = some (some (.ref f_l_whole)))
    (l_l_whole : K.lookup f_l_whole = some ⟨oc_l_whole, od_l_whole, .func (PySem.W.fnOf "_law_whole" "_law_whole" (defArgs st_l_whole) (defBody st_l_whole) (defScope st_l_whole) .none kV_l_whole dc_l_whole pm_l_whole an_l_whole cd_l_whole ct_l_whole), sl_l_whole⟩)
    (c_l_whole : PySem.W.codeIn K cd_l_whole "_law_whole" = true)
    (k_l_whole : PySem.W.keepIn K (.ref f_l_whole) = true)
    (a_l_summed_right : PySem.W.nsIn K mainGlobals "_law_summed_right" = some (some (.ref f_l_summed_right)))
    (l_l_summed_right : K.lookup f_l_summed_right = some ⟨oc_l_summed_right, od_l_summed_right, .func (PySem.W.fnOf "_law_summed_right" "_law_summed_right" (defArgs st_l_summed_right) (defBody st_l_summed_right) (defScope st_l_summed_right) .none kV_l_summed_right dc_l_summed_right pm_l_summed_right an_l_summed_right cd_l_summed_right ct_l_summed_right), sl_l_summed_right⟩)
    (c_l_summed_right : PySem.W.codeIn K cd_l_summed_right "_law_summed_right" = true)
    (k_l_summed_right : PySem.W.keepIn K (.ref f_l_summed_right) = true)
    (a_l_other_house : PySem.W.nsIn K mainGlobals "_law_other_house" = some (some (.ref f_l_other_house)))
    (l_l_other_house : K.lookup f_l_other_house = some ⟨oc_l_other_house, od_l_other_house, .func (PySem.W.fnOf "_law_other_house" "_law_other_house" (defArgs st_l_other_house) (defBody st_l_other_house) (defScope st_l_other_house) .none kV_l_other_house dc_l_other_house pm_l_other_house an_l_other_house cd_l_other_house ct_l_other_house), sl_l_other_house⟩)
    (c_l_other_house : PySem.W.codeIn K cd_l_other_house "_law_other_house" = true)
    (k_l_other_house : PySem.W.keepIn K (.ref f_l_other_house) = true)
    (a_law : PySem.W.nsIn K mainGlobals "law" = some (some (.ref f_law)))
    (l_law : K.lookup f_law = some ⟨oc_law, od_law, .func (PySem.W.fnOf "law" "law" (defArgs st_law) (defBody st_law) (defScope st_law) .none kV_law dc_law pm_law an_law cd_law ct_law), sl_law⟩)
    (c_law : PySem.W.codeIn K cd_law "law" = true)
    (k_law : PySem.W.keepIn K (.ref f_law) = true)
    (aC_CK : PySem.W.nsIn K mainGlobals "Known" = some (some (.ref CK)))
    (aC_CS : PySem.W.nsIn K mainGlobals "Standing" = some (some (.ref CS)))
    (a_kn_init : PySem.W.findIn K (.ref CK) "__init__" = some (some (.ref f_kn_init)))
    (i_kn_init : PySem.W.isFn K (.ref f_kn_init) = true)
    (l_kn_init : K.lookup f_kn_init = some ⟨oc_kn_init, od_kn_init, .func (PySem.W.fnOf "__init__" "Known.__init__" (defArgs st_kn_init) (defBody st_kn_init) (defScope st_kn_init) .none kV_kn_init dc_kn_init pm_kn_init an_kn_init cd_kn_init ct_kn_init), sl_kn_init⟩)
    (c_kn_init : PySem.W.codeIn K cd_kn_init "Known.__init__" = true)
    (k_kn_init : PySem.W.keepIn K (.ref f_kn_init) = true)
    (a_sd_init : PySem.W.findIn K (.ref CS) "__init__" = some (some (.ref f_sd_init)))
    (i_sd_init : PySem.W.isFn K (.ref f_sd_init) = true)
    (l_sd_init : K.lookup f_sd_init = some ⟨oc_sd_init, od_sd_init, .func (PySem.W.fnOf "__init__" "Standing.__init__" (defArgs st_sd_init) (defBody st_sd_init) (defScope st_sd_init) .none kV_sd_init dc_sd_init pm_sd_init an_sd_init cd_sd_init ct_sd_init), sl_sd_init⟩)
    (c_sd_init : PySem.W.codeIn K cd_sd_init "Standing.__init__" = true)
    (k_sd_init : PySem.W.keepIn K (.ref f_sd_init) = true)
    (a_sd_hears : PySem.W.findIn K (.ref CS) "hears_at" = some (some (.ref f_sd_hears)))
    (i_sd_hears : PySem.W.isFn K (.ref f_sd_hears) = true)
    (l_sd_hears : K.lookup f_sd_hears = some ⟨oc_sd_hears, od_sd_hears, .func (PySem.W.fnOf "hears_at" "Standing.hears_at" (defArgs st_sd_hears) (defBody st_sd_hears) (defScope st_sd_hears) .none kV_sd_hears dc_sd_hears pm_sd_hears an_sd_hears cd_sd_hears ct_sd_hears), sl_sd_hears⟩)
    (c_sd_hears : PySem.W.codeIn K cd_sd_hears "Standing.hears_at" = true)
    (k_sd_hears : PySem.W.keepIn K (.ref f_sd_hears) = true)
    (a_sd_lets : PySem.W.findIn K (.ref CS) "lets_by" = some (some (.ref f_sd_lets)))
    (i_sd_lets : PySem.W.isFn K (.ref f_sd_lets) = true)
    (l_sd_lets : K.lookup f_sd_lets = some ⟨oc_sd_lets, od_sd_lets, .func (PySem.W.fnOf "lets_by" "Standing.lets_by" (defArgs st_sd_lets) (defBody st_sd_lets) (defScope st_sd_lets) .none kV_sd_lets dc_sd_lets pm_sd_lets an_sd_lets cd_sd_lets ct_sd_lets), sl_sd_lets⟩)
    (c_sd_lets : PySem.W.codeIn K cd_sd_lets "Standing.lets_by" = true)
    (k_sd_lets : PySem.W.keepIn K (.ref f_sd_lets) = true)
    (a_sd_do : PySem.W.findIn K (.ref CS) "do_row" = some (some (.ref f_sd_do)))
    (i_sd_do : PySem.W.isFn K (.ref f_sd_do) = true)
    (l_sd_do : K.lookup f_sd_do = some ⟨oc_sd_do, od_sd_do, .func (PySem.W.fnOf "do_row" "Standing.do_row" (defArgs st_sd_do) (defBody st_sd_do) (defScope st_sd_do) .none kV_sd_do dc_sd_do pm_sd_do an_sd_do cd_sd_do ct_sd_do), sl_sd_do⟩)
    (c_sd_do : PySem.W.codeIn K cd_sd_do "Standing.do_row" = true)
    (k_sd_do : PySem.W.keepIn K (.ref f_sd_do) = true)
    (pgCK : PySem.W.plainGet K CK Str.empty = true)
    (hdCK : PySem.W.hasDictIn K CK = true)
    (poCK : PySem.W.plainOver K CK = true)
    (saCK : PySem.W.findIn K (.ref CK) "__setattr__" = some (some (.builtin "object.__setattr__")))
    (mkCK : PySem.W.makesIn K CK = true)
    (kcCK : PySem.W.keepIn K (.ref CK) = true)
    (pgCS : PySem.W.plainGet K CS Str.empty = true)
    (hdCS : PySem.W.hasDictIn K CS = true)
    (poCS : PySem.W.plainOver K CS = true)
    (saCS : PySem.W.findIn K (.ref CS) "__setattr__" = some (some (.builtin "object.__setattr__")))
    (mkCS : PySem.W.makesIn K CS = true)
    (kcCS : PySem.W.keepIn K (.ref CS) = true)
    (noCK_asks : PySem.W.findIn K (.ref CK) "asks" = some none)
    (noCK_keepers : PySem.W.findIn K (.ref CK) "keepers" = some none)
    (noCK_functions : PySem.W.findIn K (.ref CK) "functions" = some none)
    (noCK_heard : PySem.W.findIn K (.ref CK) "heard" = some none)
    (noCS_keepers : PySem.W.findIn K (.ref CS) "keepers" = some none)
    (noCS_held : PySem.W.findIn K (.ref CS) "held" = some none)
    (noCS_heard : PySem.W.findIn K (.ref CS) "heard" = some none)
    (z_all : PySem.W.nsIn K mainGlobals "all" = some none)
    (z_dict : PySem.W.nsIn K mainGlobals "dict" = some none)
    (z_len : PySem.W.nsIn K mainGlobals "len" = some none)
    (z_list : PySem.W.nsIn K mainGlobals "list" = some none)
    (z_tuple : PySem.W.nsIn K mainGlobals "tuple" = some none)
    (z_int : PySem.W.nsIn K mainGlobals "int" = some none)
    (z_str : PySem.W.nsIn K mainGlobals "str" = some none)
    (z_bool : PySem.W.nsIn K mainGlobals "bool" = some none)
    (z_range : PySem.W.nsIn K mainGlobals "range" = some none)
    (z_enumerate : PySem.W.nsIn K mainGlobals "enumerate" = some none)
    (z_max : PySem.W.nsIn K mainGlobals "max" = some none)
    (z_min : PySem.W.nsIn K mainGlobals "min" = some none)
    (z_sorted : PySem.W.nsIn K mainGlobals "sorted" = some none)
    (z_any : PySem.W.nsIn K mainGlobals "any" = some none)
    (z_isinstance : PySem.W.nsIn K mainGlobals "isinstance" = some none)
    (z_reversed : PySem.W.nsIn K mainGlobals "reversed" = some none)
    (z_ValueError : PySem.W.nsIn K mainGlobals "ValueError" = some none)
    (x1 : PySem.W.nsIn K mainGlobals "TOP" = some (some (.int 999999999 tt)))
    {AE CN CP CB CT CR fN : Addr} {nmE qE : Str} {NE : Addr} {bsE bmE : List Value} {snE : List Str} {sbE : List Value} {abE : Bool} {clE : Option Bool} {ddE : Option Addr} {mE0 mE1 mE2 mE3 mE5 : Option Value} {odN anN : Option Addr} {slN_ : Array (Option Value)} {ocN kVN dcN pmN cdN ctN : Value}
    (aAE : PySem.W.nsIn K mainGlobals "AskError" = some (some (.ref AE)))
    (aCN : PySem.W.nsIn K mainGlobals "NoText" = some (some (.ref CN)))
    (aCP : PySem.W.nsIn K mainGlobals "NoProgram" = some (some (.ref CP)))
    (aCB : PySem.W.nsIn K mainGlobals "NoBook" = some (some (.ref CB)))
    (aCT : PySem.W.nsIn K mainGlobals "NoTurn" = some (some (.ref CT)))
    (aCR : PySem.W.nsIn K mainGlobals "NoRow" = some (some (.ref CR)))
    (xE : K.lookup CB = some (excClassObj nmE qE CB NE bsE bmE true snE sbE abE clE ddE mE0 mE1 mE2 mE3 mE5 "ValueError.__new__"))
    (rE : PySem.HandSPX.refsVE bmE = true)
    (saE : PySem.W.findIn K (.ref CB) "__setattr__" = some (some (.builtin "object.__setattr__")))
    (exE : PySem.W.subIn K (.ref CB) (.type "BaseException") = some true)
    (tyE : PySem.W.typeIn K (.ref CB) = some (.type "type"))
    (kE : PySem.W.keepIn K (.ref CB) = true)
    (iE : PySem.W.findIn K (.ref CB) "__init__" = some (some (.ref fN)))
    (tE : PySem.W.typeIn K (.ref fN) = some (.type "function"))
    (lE : K.lookup fN = some ⟨ocN, odN, .func (PySem.W.fnOf "__init__" "NoBook.__init__" (defArgs st_nb_init) (defBody st_nb_init) (defScope st_nb_init) .none kVN dcN pmN anN cdN ctN), slN_⟩)
    (cE : PySem.W.codeIn K cdN "NoBook.__init__" = true)
    (knE : PySem.W.keepIn K (.ref fN) = true)
    (gaE : PySem.W.findIn K (.ref CB) "__getattribute__" = some (some (.builtin "BaseException.__getattribute__")))
    (ggE : PySem.W.findIn K (.ref CB) "__getattr__" = some none)
    (hdE : PySem.W.hasDictIn K CB = true)
    (haE : PySem.W.findIn K (.ref CB) "__class__" = some (some (.builtin "object.__class__")))
    (hnE : PySem.W.specialIn K (.builtin "object.__class__") "__get__" = some (some (.builtin "getset_descriptor.__get__")))
    (htE : PySem.W.takesIn K (.builtin "object.__class__") = some true)
    (hmE : PySem.W.mroIn K CB (.type "object") = some true)
    (nrE : PySem.W.findIn K (.ref CB) "at" = some none)
    (exmE : PySem.W.exmOne K (.ref CB) (.ref AE) = some true)
    (kCN : PySem.W.kitOne K (.ref CB) (.ref CN) = some false)
    (kCP : PySem.W.kitOne K (.ref CB) (.ref CP) = some false)
    (kCT : PySem.W.kitOne K (.ref CB) (.ref CT) = some false)
    (kCR : PySem.W.kitOne K (.ref CB) (.ref CR) = some false)
    (kCB : PySem.W.kitOne K (.ref CB) (.ref CB) = some true)
    (kVE : PySem.W.kitOne K (.ref CB) (.type "ValueError") = some true)
    (kbI : PySem.W.kitOne K (.type "int") (.type "bool") = some false)
    (kII : PySem.W.kitOne K (.type "int") (.type "int") = some true)
    (kTT : PySem.W.kitOne K (.type "tuple") (.type "tuple") = some true)
    (kLL : PySem.W.kitOne K (.type "list") (.type "list") = some true)
    (kDD : PySem.W.kitOne K (.type "dict") (.type "dict") = some true)
    (kIB : PySem.W.kitOne K (.type "int") (.type "bool") = some false)
    : ∃ fd : FuncData, (∀ (s : Shared) (v : Value), BindsTo s fd ⟨[v], []⟩ [("_law_script", v)]) ∧ ∀ base : Heap, K.In base → base.Ns mainGlobals mg → FnOk l.prog w K mg base CX0 7 fa fd ["_law_script"] (spLaw K) := by
  have e := hfa.symm.trans (PySem.W.mg_of X G a_law)
  cases e
  have m_all := PySem.W.mg_none_of X G z_all
  have m_dict := PySem.W.mg_none_of X G z_dict
  have m_len := PySem.W.mg_none_of X G z_len
  have m_list := PySem.W.mg_none_of X G z_list
  have m_tuple := PySem.W.mg_none_of X G z_tuple
  have m_int := PySem.W.mg_none_of X G z_int
  have m_str := PySem.W.mg_none_of X G z_str
  have m_bool := PySem.W.mg_none_of X G z_bool
  have m_range := PySem.W.mg_none_of X G z_range
  have m_enumerate := PySem.W.mg_none_of X G z_enumerate
  have m_max := PySem.W.mg_none_of X G z_max
  have m_min := PySem.W.mg_none_of X G z_min
  have m_sorted := PySem.W.mg_none_of X G z_sorted
  have m_any := PySem.W.mg_none_of X G z_any
  have m_isinstance := PySem.W.mg_none_of X G z_isinstance
  have m_reversed := PySem.W.mg_none_of X G z_reversed
  have m_ValueError := PySem.W.mg_none_of X G z_ValueError
  have F_check_book := fun_mk (st := st_check_book) l_check_book c_check_book k_check_book
  have D_check_book : Fn K mg "check_book" st_check_book ["program", "book"] _ _ := ⟨PySem.W.mg_of X G a_check_book, k_check_book, F_check_book, F_check_book.binds (ps := ["program", "book"]) fun _ _ _ _ _ _ us hl => match us, hl with | [_, _], _ => rfl⟩
  have F_summed := fun_mk (st := st_summed) l_summed c_summed k_summed
  have D_summed : Fn K mg "summed" st_summed ["program", "book"] _ _ := ⟨PySem.W.mg_of X G a_summed, k_summed, F_summed, F_summed.binds (ps := ["program", "book"]) fun _ _ _ _ _ _ us hl => match us, hl with | [_, _], _ => rfl⟩
  have F_l_deal := fun_mk (st := st_l_deal) l_l_deal c_l_deal k_l_deal
  have D_l_deal : Fn K mg "_law_deal" st_l_deal ["_law_script", "_law_base"] _ _ := ⟨PySem.W.mg_of X G a_l_deal, k_l_deal, F_l_deal, F_l_deal.binds (ps := ["_law_script", "_law_base"]) fun _ _ _ _ _ _ us hl => match us, hl with | [_, _], _ => rfl⟩
  have F_l_draw := fun_mk (st := st_l_draw) l_l_draw c_l_draw k_l_draw
  have D_l_draw : Fn K mg "_law_draw" st_l_draw ["_law_deal_here", "_law_many"] _ _ := ⟨PySem.W.mg_of X G a_l_draw, k_l_draw, F_l_draw, F_l_draw.binds (ps := ["_law_deal_here", "_law_many"]) fun _ _ _ _ _ _ us hl => match us, hl with | [_, _], _ => rfl⟩
  have F_l_words := fun_mk (st := st_l_words) l_l_words c_l_words k_l_words
  have D_l_words : Fn K mg "_law_words" st_l_words ["_law_deal_here", "_law_many"] _ _ := ⟨PySem.W.mg_of X G a_l_words, k_l_words, F_l_words, F_l_words.binds (ps := ["_law_deal_here", "_law_many"]) fun _ _ _ _ _ _ us hl => match us, hl with | [_, _], _ => rfl⟩
  have F_l_house := fun_mk (st := st_l_house) l_l_house c_l_house k_l_house
  have D_l_house : Fn K mg "_law_house" st_l_house ["_law_deal_here"] _ _ := ⟨PySem.W.mg_of X G a_l_house, k_l_house, F_l_house, F_l_house.binds (ps := ["_law_deal_here"]) fun _ _ _ _ _ _ us hl => match us, hl with | [_], _ => rfl⟩
  have F_l_heard := fun_mk (st := st_l_heard) l_l_heard c_l_heard k_l_heard
  have D_l_heard : Fn K mg "_law_heard" st_l_heard ["_law_program"] _ _ := ⟨PySem.W.mg_of X G a_l_heard, k_l_heard, F_l_heard, F_l_heard.binds (ps := ["_law_program"]) fun _ _ _ _ _ _ us hl => match us, hl with | [_], _ => rfl⟩
  have F_l_goes := fun_mk (st := st_l_goes) l_l_goes c_l_goes k_l_goes
  have D_l_goes : Fn K mg "_law_goes" st_l_goes ["_law_heard_here", "_law_stands", "_law_holds", "_law_row_here"] _ _ := ⟨PySem.W.mg_of X G a_l_goes, k_l_goes, F_l_goes, F_l_goes.binds (ps := ["_law_heard_here", "_law_stands", "_law_holds", "_law_row_here"]) fun _ _ _ _ _ _ us hl => match us, hl with | [_, _, _, _], _ => rfl⟩
  have F_l_first_wrong := fun_mk (st := st_l_first_wrong) l_l_first_wrong c_l_first_wrong k_l_first_wrong
  have D_l_first_wrong : Fn K mg "_law_first_wrong" st_l_first_wrong ["_law_program", "_law_book_here"] _ _ := ⟨PySem.W.mg_of X G a_l_first_wrong, k_l_first_wrong, F_l_first_wrong, F_l_first_wrong.binds (ps := ["_law_program", "_law_book_here"]) fun _ _ _ _ _ _ us hl => match us, hl with | [_, _], _ => rfl⟩
  have F_l_row := fun_mk (st := st_l_row) l_l_row c_l_row k_l_row
  have D_l_row : Fn K mg "_law_row" st_l_row ["_law_deal_here", "_law_heard_here", "_law_stands", "_law_holds"] _ _ := ⟨PySem.W.mg_of X G a_l_row, k_l_row, F_l_row, F_l_row.binds (ps := ["_law_deal_here", "_law_heard_here", "_law_stands", "_law_holds"]) fun _ _ _ _ _ _ us hl => match us, hl with | [_, _, _, _], _ => rfl⟩
  have F_l_book := fun_mk (st := st_l_book) l_l_book c_l_book k_l_book
  have D_l_book : Fn K mg "_law_book" st_l_book ["_law_deal_here", "_law_program", "_law_many"] _ _ := ⟨PySem.W.mg_of X G a_l_book, k_l_book, F_l_book, F_l_book.binds (ps := ["_law_deal_here", "_law_program", "_law_many"]) fun _ _ _ _ _ _ us hl => match us, hl with | [_, _, _], _ => rfl⟩
  have F_l_refused_at := fun_mk (st := st_l_refused_at) l_l_refused_at c_l_refused_at k_l_refused_at
  have D_l_refused_at : Fn K mg "_law_refused_at" st_l_refused_at ["_law_program", "_law_book_here"] _ _ := ⟨PySem.W.mg_of X G a_l_refused_at, k_l_refused_at, F_l_refused_at, F_l_refused_at.binds (ps := ["_law_program", "_law_book_here"]) fun _ _ _ _ _ _ us hl => match us, hl with | [_, _], _ => rfl⟩
  have F_l_sums := fun_mk (st := st_l_sums) l_l_sums c_l_sums k_l_sums
  have D_l_sums : Fn K mg "_law_sums" st_l_sums ["_law_program", "_law_book_here"] _ _ := ⟨PySem.W.mg_of X G a_l_sums, k_l_sums, F_l_sums, F_l_sums.binds (ps := ["_law_program", "_law_book_here"]) fun _ _ _ _ _ _ us hl => match us, hl with | [_, _], _ => rfl⟩
  have F_l_whole := fun_mk (st := st_l_whole) l_l_whole c_l_whole k_l_whole
  have D_l_whole : Fn K mg "_law_whole" st_l_whole ["_law_number"] _ _ := ⟨PySem.W.mg_of X G a_l_whole, k_l_whole, F_l_whole, F_l_whole.binds (ps := ["_law_number"]) fun _ _ _ _ _ _ us hl => match us, hl with | [_], _ => rfl⟩
  have F_l_summed_right := fun_mk (st := st_l_summed_right) l_l_summed_right c_l_summed_right k_l_summed_right
  have D_l_summed_right : Fn K mg "_law_summed_right" st_l_summed_right ["_law_program", "_law_book_here"] _ _ := ⟨PySem.W.mg_of X G a_l_summed_right, k_l_summed_right, F_l_summed_right, F_l_summed_right.binds (ps := ["_law_program", "_law_book_here"]) fun _ _ _ _ _ _ us hl => match us, hl with | [_, _], _ => rfl⟩
  have F_l_other_house := fun_mk (st := st_l_other_house) l_l_other_house c_l_other_house k_l_other_house
  have D_l_other_house : Fn K mg "_law_other_house" st_l_other_house ["_law_deal_here", "_law_program"] _ _ := ⟨PySem.W.mg_of X G a_l_other_house, k_l_other_house, F_l_other_house, F_l_other_house.binds (ps := ["_law_deal_here", "_law_program"]) fun _ _ _ _ _ _ us hl => match us, hl with | [_, _], _ => rfl⟩
  have F_law := fun_mk (st := st_law) l_law c_law k_law
  have D_law : Fn K mg "law" st_law ["_law_script"] _ _ := ⟨PySem.W.mg_of X G a_law, k_law, F_law, F_law.binds (ps := ["_law_script"]) fun _ _ _ _ _ _ us hl => match us, hl with | [_], _ => rfl⟩
  have F_kn_init := fun_mk (st := st_kn_init) l_kn_init c_kn_init k_kn_init
  have D_kn_init : Md K CK "__init__" "Known.__init__" st_kn_init ["self", "program"] _ _ := ⟨⟨a_kn_init, i_kn_init, k_kn_init⟩, F_kn_init, F_kn_init.binds (ps := ["self", "program"]) fun _ _ _ _ _ _ us hl => match us, hl with | [_, _], _ => rfl⟩
  have F_sd_init := fun_mk (st := st_sd_init) l_sd_init c_sd_init k_sd_init
  have D_sd_init : Md K CS "__init__" "Standing.__init__" st_sd_init ["self", "program"] _ _ := ⟨⟨a_sd_init, i_sd_init, k_sd_init⟩, F_sd_init, F_sd_init.binds (ps := ["self", "program"]) fun _ _ _ _ _ _ us hl => match us, hl with | [_, _], _ => rfl⟩
  have F_sd_hears := fun_mk (st := st_sd_hears) l_sd_hears c_sd_hears k_sd_hears
  have D_sd_hears : Md K CS "hears_at" "Standing.hears_at" st_sd_hears ["self", "q", "n"] _ _ := ⟨⟨a_sd_hears, i_sd_hears, k_sd_hears⟩, F_sd_hears, F_sd_hears.binds (ps := ["self", "q", "n"]) fun _ _ _ _ _ _ us hl => match us, hl with | [_, _, _], _ => rfl⟩
  have F_sd_lets := fun_mk (st := st_sd_lets) l_sd_lets c_sd_lets k_sd_lets
  have D_sd_lets : Md K CS "lets_by" "Standing.lets_by" st_sd_lets ["self", "row"] _ _ := ⟨⟨a_sd_lets, i_sd_lets, k_sd_lets⟩, F_sd_lets, F_sd_lets.binds (ps := ["self", "row"]) fun _ _ _ _ _ _ us hl => match us, hl with | [_, _], _ => rfl⟩
  have F_sd_do := fun_mk (st := st_sd_do) l_sd_do c_sd_do k_sd_do
  have D_sd_do : Md K CS "do_row" "Standing.do_row" st_sd_do ["self", "row"] _ _ := ⟨⟨a_sd_do, i_sd_do, k_sd_do⟩, F_sd_do, F_sd_do.binds (ps := ["self", "row"]) fun _ _ _ _ _ _ us hl => match us, hl with | [_, _], _ => rfl⟩
  have clK : Cls K CK := ⟨pgCK, hdCK, poCK, saCK⟩
  have clS : Cls K CS := ⟨pgCS, hdCS, poCS, saCS⟩
  have mkK : Mk K CK _ := ⟨mkCK, a_kn_init, i_kn_init, kcCK⟩
  have mkS : Mk K CS _ := ⟨mkCS, a_sd_init, i_sd_init, kcCS⟩
  have TD : BltD mg := ⟨m_len, m_list, m_reversed, m_max⟩
  have TB : BltBk mg := ⟨m_len, m_list, m_tuple, m_int, m_str, m_bool, m_range, m_enumerate, m_max, m_min, m_sorted, m_any, m_isinstance⟩
  have TK : BltKn K CK := ⟨clK, noCK_asks, noCK_keepers, noCK_functions, noCK_heard⟩
  have TS : BltSt K mg CS CK _ tt := ⟨clS, noCS_keepers, noCS_held, noCS_heard, clK, noCK_heard, mkK, PySem.W.mg_of X G aC_CK, PySem.W.mg_of X G x1, m_len, m_any, m_list⟩
  have TC : BltCk K mg CS _ := ⟨clS, mkS, PySem.W.mg_of X G aC_CS, m_enumerate⟩
  have TM : BltSm K mg CS _ := ⟨clS, mkS, PySem.W.mg_of X G aC_CS, noCS_keepers, noCS_heard, m_len, m_max⟩
  have TW : BltWh K mg := ⟨m_isinstance, m_int, m_bool, m_list, m_dict, m_tuple, m_all, kII, kIB, kTT, kLL, kDD⟩
  have FE := fun_mk (st := st_nb_init) lE cE knE
  have oc : OexC K CB := ⟨⟨_, _, _, _, _, _, _, _, _, _, _, _, _, _, _, xE, rE⟩, saE, exE, tyE, kE⟩
  have EK : ErrK K mg AE CN CP CB CT CR := ⟨PySem.W.mg_of X G aAE, PySem.W.mg_of X G aCN, PySem.W.mg_of X G aCP, PySem.W.mg_of X G aCB, PySem.W.mg_of X G aCT, PySem.W.mg_of X G aCR, m_isinstance, m_ValueError, m_bool, m_int, m_list, exmE, kCN, kCP, kCT, kCR, kCB, kVE, kbI, ⟨gaE, ggE, exE, hdE, haE, hnE, htE, hmE⟩, ⟨gaE, ggE, exE, hdE⟩, nrE⟩
  refine ⟨_, ?_, fun base _ _ => law_ok D_check_book D_summed D_l_deal D_l_draw D_l_words D_l_house D_l_heard D_l_goes D_l_first_wrong D_l_row D_l_book D_l_refused_at D_l_sums D_l_whole D_l_summed_right D_l_other_house D_law D_kn_init D_sd_init D_sd_hears D_sd_lets D_sd_do TD TB TK TS TM TW TC EK oc iE tE (FE.binds (ps := ["self", "at"]) fun _ _ _ _ _ _ us hl => match us, hl with | [_, _], _ => rfl) FE⟩
  exact fun s v => .of_eq rfl
theorem walk {l : PySem.W.OpenLaw} {q : Program} {loose : List Str} {XP : (Str → Option Value) → Heap → Prop} {YP : World → Heap → Prop} {d : DefRec} {K : Params → PySem.W.Frag} (hn : l.most = some 63) (hdf : d.params.defaults = [])
    (hY : ∀ (w : World) (h : Heap), YP w h → (K w.params).In h)
    (F : ∀ (w : World) (mg : Str → Option Value) (fa : Addr) (h : Heap), (K w.params).In h → h.Ns mainGlobals mg → mg d.name = some (.ref fa) →
      ∃ fd : FuncData, (∀ (s : Shared) (u : Value), BindsTo s fd ⟨[u], []⟩ [("_law_script", u)]) ∧ ∀ base : Heap, (K w.params).In base → base.Ns mainGlobals mg → FnOk l.prog w (K w.params) mg base CX0 7 fa fd ["_law_script"] (spLaw (K w.params))) :
    PySem.W.WalkO q loose XP YP l.row.toRowW d [] (fun f vs => PySem.call f vs) :=
  L2.walk_of (n := 63) (k := 7) (x := "_law_script") (CX := fun _ => CX0) (sp := fun w => spLaw (K w.params)) hn (by decide) hdf ⟨rfl, by decide, by decide⟩ hY F (fun _ _ a ns hl _ hS => ⟨a, ns, rfl, hS, hl, fun _ => rfl⟩) fun _ _ _ _ _ z => z
end Ak
open PySem PySem.W PyProof.Rows
set_option maxRecDepth 100000 in
set_option maxHeartbeats 0 in
theorem PySem.Challenge.cw_askladder_k64_one_book_two_programs_holds : PySem.Challenge.rw_askladder_k64_one_book_two_programs.Holds := by
  w_on; o_law; k_head; (case hw => w_witness2)
  k_fill
  refine Ak.walk (l := PySem.Challenge.rw_askladder_k64_one_book_two_programs) rfl rfl (fun w h Y => PySem.W.kIn_of Y) ?F
  case F =>
    intro w mg fa h KX G hmg
    refine' Ak.all_mk KX G hmg ?a_check_book ?l_check_book ?c_check_book ?k_check_book ?a_summed ?l_summed ?c_summed ?k_summed ?a_l_deal ?l_l_deal ?c_l_deal ?k_l_deal ?a_l_draw ?l_l_draw ?c_l_draw ?k_l_draw ?a_l_words ?l_l_words ?c_l_words ?k_l_words ?a_l_house ?l_l_house ?c_l_house ?k_l_house ?a_l_heard ?l_l_heard ?c_l_heard ?k_l_heard ?a_l_goes ?l_l_goes ?c_l_goes ?k_l_goes ?a_l_first_wrong ?l_l_first_wrong ?c_l_first_wrong ?k_l_first_wrong ?a_l_row ?l_l_row ?c_l_row ?k_l_row ?a_l_book ?l_l_book ?c_l_book ?k_l_book ?a_l_refused_at ?l_l_refused_at ?c_l_refused_at ?k_l_refused_at ?a_l_sums ?l_l_sums ?c_l_sums ?k_l_sums ?a_l_whole ?l_l_whole ?c_l_whole ?k_l_whole ?a_l_summed_right ?l_l_summed_right ?c_l_summed_right ?k_l_summed_right ?a_l_other_house ?l_l_other_house ?c_l_other_house ?k_l_other_house ?a_law ?l_law ?c_law ?k_law ?aC_CK ?aC_CS ?a_kn_init ?i_kn_init ?l_kn_init ?c_kn_init ?k_kn_init ?a_sd_init ?i_sd_init ?l_sd_init ?c_sd_init ?k_sd_init ?a_sd_hears ?i_sd_hears ?l_sd_hears ?c_sd_hears ?k_sd_hears ?a_sd_lets ?i_sd_lets ?l_sd_lets ?c_sd_lets ?k_sd_lets ?a_sd_do ?i_sd_do ?l_sd_do ?c_sd_do ?k_sd_do ?pgCK ?hdCK ?poCK ?saCK ?mkCK ?kcCK ?pgCS ?hdCS ?poCS ?saCS ?mkCS ?kcCS ?noCK_asks ?noCK_keepers ?noCK_functions ?noCK_heard ?noCS_keepers ?noCS_held ?noCS_heard ?z_all ?z_dict ?z_len ?z_list ?z_tuple ?z_int ?z_str ?z_bool ?z_range ?z_enumerate ?z_max ?z_min ?z_sorted ?z_any ?z_isinstance ?z_reversed ?z_ValueError ?x1 ?aAE ?aCN ?aCP ?aCB ?aCT ?aCR ?xE ?rE ?saE ?exE ?tyE ?kE ?iE ?tE ?lE ?cE ?knE ?gaE ?ggE ?hdE ?haE ?hnE ?htE ?hmE ?nrE ?exmE ?kCN ?kCP ?kCT ?kCR ?kCB ?kVE ?kbI ?kII ?kTT ?kLL ?kDD ?kIB
    (case a_check_book => k_is)
    (case l_check_book => k_is)
    (case c_check_book => k_is)
    (case k_check_book => k_is)
    (case a_summed => k_is)
    (case l_summed => k_is)
    (case c_summed => k_is)
    (case k_summed => k_is)
    (case a_l_deal => k_is)
    (case l_l_deal => k_is)
    (case c_l_deal => k_is)
    (case k_l_deal => k_is)
    (case a_l_draw => k_is)
    (case l_l_draw => k_is)
    (case c_l_draw => k_is)
    (case k_l_draw => k_is)
    (case a_l_words => k_is)
    (case l_l_words => k_is)
    (case c_l_words => k_is)
    (case k_l_words => k_is)
    (case a_l_house => k_is)
    (case l_l_house => k_is)
    (case c_l_house => k_is)
    (case k_l_house => k_is)
    (case a_l_heard => k_is)
    (case l_l_heard => k_is)
    (case c_l_heard => k_is)
    (case k_l_heard => k_is)
    (case a_l_goes => k_is)
    (case l_l_goes => k_is)
    (case c_l_goes => k_is)
    (case k_l_goes => k_is)
    (case a_l_first_wrong => k_is)
    (case l_l_first_wrong => k_is)
    (case c_l_first_wrong => k_is)
    (case k_l_first_wrong => k_is)
    (case a_l_row => k_is)
    (case l_l_row => k_is)
    (case c_l_row => k_is)
    (case k_l_row => k_is)
    (case a_l_book => k_is)
    (case l_l_book => k_is)
    (case c_l_book => k_is)
    (case k_l_book => k_is)
    (case a_l_refused_at => k_is)
    (case l_l_refused_at => k_is)
    (case c_l_refused_at => k_is)
    (case k_l_refused_at => k_is)
    (case a_l_sums => k_is)
    (case l_l_sums => k_is)
    (case c_l_sums => k_is)
    (case k_l_sums => k_is)
    (case a_l_whole => k_is)
    (case l_l_whole => k_is)
    (case c_l_whole => k_is)
    (case k_l_whole => k_is)
    (case a_l_summed_right => k_is)
    (case l_l_summed_right => k_is)
    (case c_l_summed_right => k_is)
    (case k_l_summed_right => k_is)
    (case a_l_other_house => k_is)
    (case l_l_other_house => k_is)
    (case c_l_other_house => k_is)
    (case k_l_other_house => k_is)
    (case a_law => k_is)
    (case l_law => k_is)
    (case c_law => k_is)
    (case k_law => k_is)
    (case aC_CK => k_is)
    (case aC_CS => k_is)
    (case a_kn_init => k_is)
    (case i_kn_init => k_is)
    (case l_kn_init => k_is)
    (case c_kn_init => k_is)
    (case k_kn_init => k_is)
    (case a_sd_init => k_is)
    (case i_sd_init => k_is)
    (case l_sd_init => k_is)
    (case c_sd_init => k_is)
    (case k_sd_init => k_is)
    (case a_sd_hears => k_is)
    (case i_sd_hears => k_is)
    (case l_sd_hears => k_is)
    (case c_sd_hears => k_is)
    (case k_sd_hears => k_is)
    (case a_sd_lets => k_is)
    (case i_sd_lets => k_is)
    (case l_sd_lets => k_is)
    (case c_sd_lets => k_is)
    (case k_sd_lets => k_is)
    (case a_sd_do => k_is)
    (case i_sd_do => k_is)
    (case l_sd_do => k_is)
    (case c_sd_do => k_is)
    (case k_sd_do => k_is)
    (case pgCK => k_is)
    (case hdCK => k_is)
    (case poCK => k_is)
    (case saCK => k_is)
    (case mkCK => k_is)
    (case kcCK => k_is)
    (case pgCS => k_is)
    (case hdCS => k_is)
    (case poCS => k_is)
    (case saCS => k_is)
    (case mkCS => k_is)
    (case kcCS => k_is)
    (case noCK_asks => k_is)
    (case noCK_keepers => k_is)
    (case noCK_functions => k_is)
    (case noCK_heard => k_is)
    (case noCS_keepers => k_is)
    (case noCS_held => k_is)
    (case noCS_heard => k_is)
    (case z_all => k_is)
    (case z_dict => k_is)
    (case z_len => k_is)
    (case z_list => k_is)
    (case z_tuple => k_is)
    (case z_int => k_is)
    (case z_str => k_is)
    (case z_bool => k_is)
    (case z_range => k_is)
    (case z_enumerate => k_is)
    (case z_max => k_is)
    (case z_min => k_is)
    (case z_sorted => k_is)
    (case z_any => k_is)
    (case z_isinstance => k_is)
    (case z_reversed => k_is)
    (case z_ValueError => k_is)
    (case x1 => k_is)
    (case aAE => k_is)
    (case aCN => k_is)
    (case aCP => k_is)
    (case aCB => k_is)
    (case aCT => k_is)
    (case aCR => k_is)
    (case xE => k_is)
    (case rE => (first | rfl | decide +kernel))
    (case saE => k_is)
    (case exE => k_is)
    (case tyE => k_is)
    (case kE => k_is)
    (case iE => k_is)
    (case tE => k_is)
    (case lE => k_is)
    (case cE => k_is)
    (case knE => k_is)
    (case gaE => k_is)
    (case ggE => k_is)
    (case hdE => k_is)
    (case haE => k_is)
    (case hnE => k_is)
    (case htE => k_is)
    (case hmE => k_is)
    (case nrE => k_is)
    (case exmE => (first | k_is | rfl | decide +kernel))
    (case kCN => (first | k_is | rfl | decide +kernel))
    (case kCP => (first | k_is | rfl | decide +kernel))
    (case kCT => (first | k_is | rfl | decide +kernel))
    (case kCR => (first | k_is | rfl | decide +kernel))
    (case kCB => (first | k_is | rfl | decide +kernel))
    (case kVE => (first | k_is | rfl | decide +kernel))
    (case kbI => (first | k_is | rfl | decide +kernel))
    (case kII => (first | k_is | rfl | decide +kernel))
    (case kTT => (first | k_is | rfl | decide +kernel))
    (case kLL => (first | k_is | rfl | decide +kernel))
    (case kDD => (first | k_is | rfl | decide +kernel))
    (case kIB => (first | k_is | rfl | decide +kernel))
#print axioms PySem.Challenge.cw_askladder_k64_one_book_two_programs_holds

import PyProof.Rows.All
import Wide.All
import OpenK.AllK
import Wide.FinOn
import HandS.Base
import HandS.Call
import HandS.List
import HandS.Comp
import HandS.Ends
import HandS.Words
import HandS.WordsList
import HandS.Property
import HandS.IsInst
import HandS.TupSets
import HandS.Conv
import HandS.TupAny
import HandS.Wide
import HandS.Iter
import HandS.Zip
import HandS.Deep
import HandS.Codes
import KE.GoesEnum
import HandS.Dict
import HandS.DictComp
import HandS.DictTup
import KE.KDictPairs
import KE.KDictCopyH
import HandS.NoneIn
import HandS.Style
import HandS.OwnEq
import HandS.OwnIter
import HandS.IterVal
import HandS.DictSub
import KE.KEqDict
import PyProof.WalkInts
import HandS.Flow
import HandS.Star
import KE.KUnpackStar
import KE.DataCmp
import HandS.Text
import HandS.FStr
import HandS.More
import KE.GoesMore
import HandS.TupLen
import HandS.SortKw
import KE.DataMinMax
import KE.SortData
import KE.DatumOrd
import HandS.DictSubView
import HandS.RevRange
import HandS.TupMul
import HandS.Exc
import HandS.ExcOwn
import HandS.WordsExc
import HandS.TryElse
import KE.KDictWalk
import KE.KItemsList
import KE.KPairComp
import KE.IntBitsLaws
import KE.KStateDown
import HandS.Defaults
import HandS.Head0
import HandS.Head1
import HandS.Head2
import HandS.HeadEnd
import HandS.HeadHook1
import HandS.HeadHook2
import HandS.HeadNt
import HandS.HeadHook3
import HandS.EndBits
import PySem.Challenge.RW_coolway_k33_whole_logs
section
set_option Elab.async false
set_option linter.all false
set_option maxRecDepth 100000
/-! The data layer: what a def of the program does, said of plain data; the heap is kept out of sight. -/
namespace DL
open PySem PySem.Spec PyProof.Rows L2

/-! ### data -/
/-- ints as a key -/
def ik (ns : List Int) : List L2.Key := ns.map Sum.inl
inductive D where
  | non | bl (b : Bool) | int (i : Int) | str (x : Str) | lst (ds : List D) | tup (ds : List D) | obj (C : Addr) (fs : List (Str × D)) | ctp (ds : List D) | dic (kvs : List (List Int × D)) | rls (ds : List D)
mutual
/-- v, read in the heap B, is the data d -/
inductive Rep (K : PySem.W.Frag) (B : Hp) : V → D → Prop
  | non : Rep K B .non .non
  | bl (b : Bool) : Rep K B (.bl b) (.bl b)
  | int (i : Int) : Rep K B (.int i) (.int i)
  | str (x : Str) : Rep K B (.str x) (.str x)
  | lst {a : Addr} {xs : List V} {ds : List D} : SqL K B a xs → RepAll K B xs ds → Rep K B (.ref a) (.lst ds)
  | tup {a : Addr} {xs : List V} {ds : List D} : B a = some (.tup xs) → RepAll K B xs ds → Rep K B (.ref a) (.tup ds)
  /-- a tuple of the written part -/
  | ctp {a : Addr} {xs : List V} {ds : List D} : SqT K B a xs → RepAll K B xs ds → Rep K B (.ref a) (.ctp ds)
  /-- a dict with tuples as keys, locked or not -/
  | dic {a : Addr} {kvs : List (List L2.Key × V)} {ds : List (List Int × D)} : Rd B a (.dT kvs) → RepKv K B kvs ds → Rep K B (.ref a) (.dic ds)
  /-- a list that lies in the heap as it was made -/
  | rls {a : Addr} {xs : List V} {ds : List D} : B a = some (.lst xs) → RepAll K B xs ds → Rep K B (.ref a) (.rls ds)
  | obj {a C dx : Addr} {fs : List (Str × V)} {gs : List (Str × D)} : B a = some (.ins C dx fs) → RepFs K B fs gs → Rep K B (.ref a) (.obj C gs)
inductive RepAll (K : PySem.W.Frag) (B : Hp) : List V → List D → Prop
  | nil : RepAll K B [] []
  | cons {v : V} {vs : List V} {d : D} {ds : List D} : Rep K B v d → RepAll K B vs ds → RepAll K B (v :: vs) (d :: ds)
inductive RepFs (K : PySem.W.Frag) (B : Hp) : List (Str × V) → List (Str × D) → Prop
  | nil : RepFs K B [] []
  | cons {f : Str} {v : V} {vs : List (Str × V)} {d : D} {ds : List (Str × D)} : Rep K B v d → RepFs K B vs ds → RepFs K B ((f, v) :: vs) ((f, d) :: ds)
inductive RepKv (K : PySem.W.Frag) (B : Hp) : List (List L2.Key × V) → List (List Int × D) → Prop
  | nil : RepKv K B [] []
  | cons {f : List Int} {v : V} {vs : List (List L2.Key × V)} {d : D} {ds : List (List Int × D)} : Rep K B v d → RepKv K B vs ds → RepKv K B ((ik f, v) :: vs) ((f, d) :: ds)
end
theorem sameRd {H H' : Hp} {a : Addr} {u : HO} (e : Same H H') (h : Rd H a u) : Rd H' a u := by
  rcases h with h | ⟨o, h⟩
  · exact .inl (e _ _ h)
  · exact .inr ⟨o, e _ _ h⟩
theorem sameT {K : PySem.W.Frag} {H H' : Hp} {a : Addr} {xs : List V} (e : Same H H') (h : SqT K H a xs) : SqT K H' a xs := by
  rcases h with (h | ⟨o, h⟩) | h
  · exact .inl (.inl (e _ _ h))
  · exact .inl (.inr ⟨o, e _ _ h⟩)
  · exact .inr h
section
variable {K : PySem.W.Frag} {B B' : Hp}
mutual
theorem Rep.mono (e : Same B B') : ∀ (d : D) {v : V}, Rep K B v d → Rep K B' v d
  | .non, _, h => by cases h; exact .non
  | .bl b, _, h => by cases h; exact .bl b
  | .int i, _, h => by cases h; exact .int i
  | .str x, _, h => by cases h; exact .str x
  | .lst ds, _, h => by
    cases h with
    | lst s r => exact .lst (e.seq s) (RepAll.mono e ds r)
  | .tup ds, _, h => by
    cases h with
    | tup s r => exact .tup (e _ _ s) (RepAll.mono e ds r)
  | .ctp ds, _, h => by
    cases h with
    | ctp s r => exact .ctp (sameT e s) (RepAll.mono e ds r)
  | .dic ds, _, h => by
    cases h with
    | dic s r => exact .dic (sameRd e s) (RepKv.mono e ds r)
  | .rls ds, _, h => by
    cases h with
    | rls s r => exact .rls (e _ _ s) (RepAll.mono e ds r)
  | .obj C gs, _, h => by
    cases h with
    | obj s r => exact .obj (e _ _ s) (RepFs.mono e gs r)
theorem RepAll.mono (e : Same B B') : ∀ (ds : List D) {vs : List V}, RepAll K B vs ds → RepAll K B' vs ds
  | [], _, h => by cases h; exact .nil
  | d :: ds, _, h => by
    cases h with
    | cons h1 h2 => exact .cons (Rep.mono e d h1) (RepAll.mono e ds h2)
theorem RepFs.mono (e : Same B B') : ∀ (ds : List (Str × D)) {vs : List (Str × V)}, RepFs K B vs ds → RepFs K B' vs ds
  | [], _, h => by cases h; exact .nil
  | (f, d) :: ds, _, h => by
    cases h with
    | cons h1 h2 => exact .cons (Rep.mono e d h1) (RepFs.mono e ds h2)
theorem RepKv.mono (e : Same B B') : ∀ (ds : List (List Int × D)) {vs : List (List L2.Key × V)}, RepKv K B vs ds → RepKv K B' vs ds
  | [], _, h => by cases h; exact .nil
  | (f, d) :: ds, _, h => by
    cases h with
    | cons h1 h2 => exact .cons (Rep.mono e d h1) (RepKv.mono e ds h2)
end
theorem RepAll.len : ∀ {ds : List D} {vs : List V}, RepAll K B vs ds → vs.length = ds.length
  | [], _, h => by cases h; rfl
  | d :: ds, _, h => by
    cases h with
    | cons h1 h2 => rw [List.length_cons, List.length_cons, RepAll.len h2]
theorem RepAll.get : ∀ {ds : List D} {vs : List V} {i : Nat} {d : D}, RepAll K B vs ds → ds[i]? = some d → ∃ v, vs[i]? = some v ∧ Rep K B v d
  | [], _, _, _, _, e => by simp at e
  | d :: ds, _, 0, x, h, e => by
    cases h with
    | cons h1 h2 =>
      rename_i v vs
      have e' : d = x := Option.some.inj e
      exact ⟨v, rfl, e' ▸ h1⟩
  | d :: ds, _, i + 1, x, h, e => by
    cases h with
    | cons h1 h2 =>
      obtain ⟨v, a, b⟩ := RepAll.get (i := i) h2 (by simpa using e)
      exact ⟨v, by simpa using a, b⟩
theorem RepAll.get' : ∀ {ds : List D} {vs : List V} {i : Nat} {v : V}, RepAll K B vs ds → vs[i]? = some v → ∃ d, ds[i]? = some d ∧ Rep K B v d
  | [], _, _, _, h, e => by cases h; simp at e
  | d :: ds, _, 0, x, h, e => by
    cases h with
    | cons h1 h2 =>
      rename_i v vs
      have e' : v = x := Option.some.inj e
      exact ⟨d, rfl, e' ▸ h1⟩
  | d :: ds, _, i + 1, x, h, e => by
    cases h with
    | cons h1 h2 =>
      obtain ⟨v, a, b⟩ := RepAll.get' (i := i) h2 (by simpa using e)
      exact ⟨v, by simpa using a, b⟩
theorem RepAll.append : ∀ {ds es : List D} {vs us : List V}, RepAll K B vs ds → RepAll K B us es → RepAll K B (vs ++ us) (ds ++ es)
  | [], _, _, _, h, g => by cases h; exact g
  | d :: ds, _, _, _, h, g => by
    cases h with
    | cons h1 h2 => exact .cons h1 (RepAll.append h2 g)
theorem RepAll.drop : ∀ (n : Nat) {ds : List D} {vs : List V}, RepAll K B vs ds → RepAll K B (vs.drop n) (ds.drop n)
  | 0, _, _, h => h
  | n + 1, [], _, h => by cases h; exact .nil
  | n + 1, d :: ds, _, h => by
    cases h with
    | cons h1 h2 => exact RepAll.drop n h2
theorem RepAll.take : ∀ (n : Nat) {ds : List D} {vs : List V}, RepAll K B vs ds → RepAll K B (vs.take n) (ds.take n)
  | 0, _, _, h => .nil
  | n + 1, [], _, h => by cases h; exact .nil
  | n + 1, d :: ds, _, h => by
    cases h with
    | cons h1 h2 => exact .cons h1 (RepAll.take n h2)
theorem RepAll.set {v : V} {d : D} (r : Rep K B v d) : ∀ (n : Nat) {ds : List D} {vs : List V}, RepAll K B vs ds → RepAll K B (vs.set n v) (ds.set n d)
  | _, [], _, h => by cases h; exact .nil
  | 0, d :: ds, _, h => by
    cases h with
    | cons h1 h2 => exact .cons r h2
  | n + 1, d :: ds, _, h => by
    cases h with
    | cons h1 h2 => exact .cons h1 (RepAll.set r n h2)
theorem RepAll.ints : ∀ {ns : List Int} {vs : List V}, RepAll K B vs (ns.map D.int) → vs = ns.map V.int
  | [], _, h => by cases h; rfl
  | n :: ns, _, h => by
    cases h with
    | cons h1 h2 =>
      cases h1
      rw [RepAll.ints h2]
      rfl
theorem RepAll.ofInts : ∀ (ns : List Int), RepAll K B (ns.map V.int) (ns.map D.int)
  | [] => .nil
  | n :: ns => .cons (.int n) (RepAll.ofInts ns)
theorem RepAll.bls : ∀ {ns : List Bool} {vs : List V}, RepAll K B vs (ns.map D.bl) → vs = ns.map V.bl
  | [], _, h => by cases h; rfl
  | n :: ns, _, h => by
    cases h with
    | cons h1 h2 =>
      cases h1
      rw [RepAll.bls h2]
      rfl
theorem RepFs.look : ∀ {gs : List (Str × D)} {fs : List (Str × V)} {f : Str} {d : D}, RepFs K B fs gs → gs.lookup f = some d → ∃ v, fs.lookup f = some v ∧ Rep K B v d
  | [], _, _, _, h, e => by simp at e
  | (g, x) :: gs, _, f, d, h, e => by
    cases h with
    | cons h1 h2 =>
      rename_i v vs
      rw [List.lookup_cons] at e
      rw [List.lookup_cons]
      cases q : f == g with
      | true =>
        rw [q] at e
        have e' : x = d := Option.some.inj e
        exact ⟨v, rfl, e' ▸ h1⟩
      | false =>
        rw [q] at e
        exact RepFs.look h2 e
theorem RepFs.len : ∀ {gs : List (Str × D)} {fs : List (Str × V)}, RepFs K B fs gs → fs.length = gs.length
  | [], _, h => by cases h; rfl
  | (g, x) :: gs, _, h => by
    cases h with
    | cons h1 h2 => rw [List.length_cons, List.length_cons, RepFs.len h2]
/-- data's store to a field -/
def putD (f : Str) (d : D) : List (Str × D) → List (Str × D)
  | [] => [(f, d)]
  | (g, x) :: gs => if g = f then (g, d) :: gs else (g, x) :: putD f d gs
end

/-! ### the situation: slots, own objects -/
inductive Vl where
  | dat (d : D) | own (n : Nat) | tl (ds : List D) | lk (ds : List (List Int × D))
/-- what an own object (one that may still change) holds; gone: nothing is said of it any more -/
inductive Mc where
  | gone | lst (ds : List D) | obj (C : Addr) (fs : List (Str × D)) | dic (ds : List (List Int × D))
  /-- anything else, by what is true of its content (and of data) -/
  | gen (φ : PySem.W.Frag → Hp → Addr → HO → Prop)
/-- a dict's lock alone tells them apart -/
structure Alike (B B' : Hp) : Prop where
  oth : ∀ a u, (∀ kvs, ¬ Rd B a (.dT kvs)) → B a = some u → B' a = some u
  dic : ∀ a kvs, Rd B a (.dT kvs) → Rd B' a (.dT kvs)
theorem Alike.of {B B' : Hp} (e : Same B B') : Alike B B' := ⟨fun a u _ h => e a u h, fun _ _ h => sameRd e h⟩
theorem Alike.trans {B B1 B2 : Hp} (e : Alike B B1) (f : Alike B1 B2) : Alike B B2 :=
  ⟨fun a u n h => f.oth a u (fun kvs z => by
    have h1 := e.oth a u n h
    rcases z with z | ⟨o, z⟩
    · rw [h1] at z
      exact n kvs (.inl (h.trans z))
    · rw [h1] at z
      exact n kvs (.inr ⟨o, h.trans z⟩)) (e.oth a u n h), fun a kvs h => f.dic a kvs (e.dic a kvs h)⟩
abbrev Sl := List (Option Vl)
def VlOk (K : PySem.W.Frag) (B : Hp) (al : List Addr) (v : V) : Vl → Prop
  | .dat d => Rep K B v d
  | .own n => ∃ a, al[n]? = some a ∧ v = .ref a
  | .tl ds => ∃ a xs, v = .ref a ∧ B a = some (.lst xs) ∧ RepAll K B xs ds
  | .lk ds => ∃ a o kvs, v = .ref a ∧ B a = some (.frz o (.dT kvs)) ∧ RepKv K B kvs ds
def McOk (K : PySem.W.Frag) (B H : Hp) (a : Addr) : Mc → Prop
  | .gone => True
  | .lst ds => B a = none ∧ ∃ xs, H a = some (.lst xs) ∧ RepAll K B xs ds
  | .obj C fs => B a = none ∧ ∃ dx fv, H a = some (.ins C dx fv) ∧ RepFs K B fv fs
  | .dic ds => B a = none ∧ ∃ kvs, H a = some (.dT kvs) ∧ RepKv K B kvs ds
  | .gen φ => B a = none ∧ ∃ o, H a = some o ∧ (∀ xs, o ≠ .tup xs) ∧ ∀ B', Alike B B' → φ K B' a o
structure Sit (K : PySem.W.Frag) (B H : Hp) (al : List Addr) (σ : L2.St) (ss : Sl) (mem : List Mc) : Prop where
  sub : Same B H
  len : σ.length = ss.length
  slot : ∀ (i : Nat) (r : Vl), ss[i]? = some (some r) → ∃ v : V, σ[i]? = some (some v) ∧ VlOk K B al v r
  mlen : al.length = mem.length
  mem : ∀ (n : Nat) (a : Addr) (m : Mc), al[n]? = some a → mem[n]? = some m → McOk K B H a m
  nd : al.Nodup
  there : ∀ a ∈ al, H a ≠ none
structure Stp (B H : Hp) (al : List Addr) (B' H' : Hp) (al' : List Addr) : Prop where
  same : Same B B'
  frame : ∀ b o, H b = some o → b ∉ al → H' b = some o
  fresh : ∀ b, B' b ≠ none → B b ≠ none ∨ H b = none ∨ b ∈ al ∨ ∃ xs, H b = some (.tup xs)
  stay : ∀ b, H b ≠ none → H' b ≠ none
  ext : ∃ ex, al' = al ++ ex ∧ ∀ a ∈ ex, H a = none
theorem Stp.refl (B H : Hp) (al : List Addr) : Stp B H al B H al :=
  ⟨Same.refl B, fun _ _ h _ => h, fun _ h => .inl h, fun _ h => h, [], by rw [List.append_nil], fun _ h => by cases h⟩
theorem Stp.trans {B H B1 H1 B2 H2 : Hp} {al al1 al2 : List Addr} (a : Stp B H al B1 H1 al1) (b : Stp B1 H1 al1 B2 H2 al2) : Stp B H al B2 H2 al2 := by
  obtain ⟨e1, q1, n1⟩ := a.ext
  obtain ⟨e2, q2, n2⟩ := b.ext
  have back : ∀ c, H1 c = none → H c = none := fun c h => by
    cases q : H c with
    | none => rfl
    | some o => exact absurd h (a.stay c (by rw [q]; exact fun z => nomatch z))
  refine ⟨a.same.trans b.same, fun c o h hn => b.frame c o (a.frame c o h hn) ?_, fun c h => ?_, fun c h => b.stay c (a.stay c h), e1 ++ e2, by rw [q2, q1, List.append_assoc], fun c h => ?_⟩
  · rw [q1]
    intro z
    rcases List.mem_append.mp z with z | z
    · exact hn z
    · rw [n1 c z] at h
      cases h
  · rcases b.fresh c h with z | z | z | ⟨xs, z⟩
    · exact a.fresh c z
    · exact .inr (.inl (back c z))
    · rw [q1] at z
      rcases List.mem_append.mp z with z | z
      · exact .inr (.inr (.inl z))
      · exact .inr (.inl (n1 c z))
    · rcases Option.eq_none_or_eq_some (H c) with q | ⟨o, q⟩
      · exact .inr (.inl q)
      · by_cases hc : c ∈ al
        · exact .inr (.inr (.inl hc))
        · have e := a.frame c o q hc
          rw [z] at e
          cases e
          exact .inr (.inr (.inr ⟨xs, q⟩))
  · rcases List.mem_append.mp h with z | z
    · exact n1 c z
    · exact back c (n2 c z)
theorem Stp.back {B H B1 H1 : Hp} {al al1 : List Addr} (a : Stp B H al B1 H1 al1) {c : Addr} (h : H1 c = none) : H c = none := by
  cases q : H c with
  | none => rfl
  | some o => exact absurd h (a.stay c (by rw [q]; exact fun z => nomatch z))
theorem Stp.get {B H B1 H1 : Hp} {al al1 : List Addr} (a : Stp B H al B1 H1 al1) {n : Nat} {x : Addr} (h : al[n]? = some x) : al1[n]? = some x := by
  obtain ⟨e1, q1, n1⟩ := a.ext
  obtain ⟨h1, h2⟩ := List.getElem?_eq_some_iff.mp h
  rw [q1, List.getElem?_append_left h1]
  exact h
section
variable {K : PySem.W.Frag} {B H B' H' : Hp} {al al' : List Addr} {σ : L2.St} {ss : Sl} {mem : List Mc}
theorem VlOk.step (a : Stp B H al B' H' al') {v : V} : ∀ {r : Vl}, VlOk K B al v r → VlOk K B' al' v r
  | .dat d, h => Rep.mono a.same d h
  | .own n, ⟨x, h1, h2⟩ => ⟨x, a.get h1, h2⟩
  | .tl ds, ⟨x, xs, h1, h2, h3⟩ => ⟨x, xs, h1, a.same _ _ h2, RepAll.mono a.same ds h3⟩
  | .lk ds, ⟨x, o, xs, h1, h2, h3⟩ => ⟨x, o, xs, h1, a.same _ _ h2, RepKv.mono a.same ds h3⟩
def VlsOk (K : PySem.W.Frag) (B : Hp) (al : List Addr) : List V → List Vl → Prop
  | [], [] => True
  | v :: vs, r :: rs => VlOk K B al v r ∧ VlsOk K B al vs rs
  | _, _ => False
theorem VlsOk.step (a : Stp B H al B' H' al') : ∀ {vs : List V} {rs : List Vl}, VlsOk K B al vs rs → VlsOk K B' al' vs rs
  | [], [], _ => trivial
  | _ :: _, _ :: _, ⟨h1, h2⟩ => ⟨h1.step a, VlsOk.step a h2⟩
theorem VlsOk.dats : ∀ {vs : List V} {ds : List D}, VlsOk K B al vs (ds.map Vl.dat) → RepAll K B vs ds
  | [], [], _ => .nil
  | _ :: _, _ :: _, ⟨h1, h2⟩ => .cons h1 (VlsOk.dats h2)
theorem VlsOk.len : ∀ {vs : List V} {rs : List Vl}, VlsOk K B al vs rs → vs.length = rs.length
  | [], [], _ => rfl
  | _ :: vs, _ :: rs, ⟨h1, h2⟩ => by rw [List.length_cons, List.length_cons, VlsOk.len h2]
/-- a new object is laid, tracked, as data at once -/
theorem Sit.lay (S : Sit K B H al σ ss mem) {p : Addr} {o : HO} (np : H p = none) : Stp B H al (upd B p o) (upd H p o) al ∧ Sit K (upd B p o) (upd H p o) al σ ss mem := by
  have nb : B p = none := S.sub.free np
  have sB : Same B (upd B p o) := fun b u e => by rw [upd_ne (ne_of_none e nb)]; exact e
  have sH : Same H (upd H p o) := fun b u e => by rw [upd_ne (ne_of_none e np)]; exact e
  have hn : ∀ b, H b ≠ none → b ≠ p := fun b h e => h (e ▸ np)
  have P : Stp B H al (upd B p o) (upd H p o) al := by
    refine ⟨sB, fun b u e _ => sH b u e, fun b h => ?_, fun b h => ?_, [], by rw [List.append_nil], fun _ h => by cases h⟩
    · by_cases e : b = p
      · exact .inr (.inl (e ▸ np))
      · rw [upd_ne e] at h
        exact .inl h
    · rw [upd_ne (hn b h)]
      exact h
  refine ⟨P, fun b u e => ?_, S.len, fun i r e => ?_, S.mlen, fun n a m h1 h2 => ?_, S.nd, fun a h => P.stay a (S.there a h)⟩
  · by_cases q : b = p
    · subst q
      rw [upd_same] at e ⊢
      exact e
    · rw [upd_ne q] at e ⊢
      exact S.sub b u e
  · obtain ⟨v, h1, h2⟩ := S.slot i r e
    exact ⟨v, h1, h2.step P⟩
  · have q := S.mem n a m h1 h2
    have ha : a ≠ p := hn a (S.there a (List.mem_of_getElem? h1))
    cases m with
    | gone => trivial
    | lst ds =>
      obtain ⟨b0, xs, h3, h4⟩ := q
      exact ⟨by rw [upd_ne ha]; exact b0, xs, sH _ _ h3, RepAll.mono sB ds h4⟩
    | obj C fs =>
      obtain ⟨b0, dx, fv, h3, h4⟩ := q
      exact ⟨by rw [upd_ne ha]; exact b0, dx, fv, sH _ _ h3, RepFs.mono sB fs h4⟩
    | dic ds =>
      obtain ⟨b0, kv, h3, h4⟩ := q
      exact ⟨by rw [upd_ne ha]; exact b0, kv, sH _ _ h3, RepKv.mono sB ds h4⟩
    | gen φ =>
      obtain ⟨b0, kv, h3, h5, h4⟩ := q
      exact ⟨by rw [upd_ne ha]; exact b0, kv, sH _ _ h3, h5, fun B2 e => h4 B2 ((Alike.of sB).trans e)⟩
/-- a new object is laid, tracked, as an own one -/
theorem Sit.layOwn (S : Sit K B H al σ ss mem) {p : Addr} {o : HO} {m : Mc} (np : H p = none) (hm : McOk K B (upd H p o) p m) : Stp B H al B (upd H p o) (al ++ [p]) ∧ Sit K B (upd H p o) (al ++ [p]) σ ss (mem ++ [m]) := by
  have nb : B p = none := S.sub.free np
  have sH : Same H (upd H p o) := fun b u e => by rw [upd_ne (ne_of_none e np)]; exact e
  have hn : ∀ b, H b ≠ none → b ≠ p := fun b h e => h (e ▸ np)
  have P : Stp B H al B (upd H p o) (al ++ [p]) := by
    refine ⟨Same.refl B, fun b u e _ => sH b u e, fun b h => .inl h, fun b h => ?_, [p], rfl, fun a h => ?_⟩
    · rw [upd_ne (hn b h)]
      exact h
    · rw [List.mem_singleton] at h
      exact h ▸ np
  have nal : p ∉ al := fun h => S.there p h np
  refine ⟨P, fun b u e => sH b u (S.sub b u e), S.len, fun i r e => ?_, by rw [List.length_append, List.length_append, S.mlen]; rfl, fun n a m' h1 h2 => ?_, ?_, fun a h => ?_⟩
  · obtain ⟨v, h1, h2⟩ := S.slot i r e
    exact ⟨v, h1, h2.step P⟩
  · by_cases hlt : n < al.length
    · rw [List.getElem?_append_left hlt] at h1
      rw [List.getElem?_append_left (S.mlen ▸ hlt)] at h2
      have q := S.mem n a m' h1 h2
      cases m' with
      | gone => trivial
      | lst ds =>
        obtain ⟨b0, xs, h3, h4⟩ := q
        exact ⟨b0, xs, sH _ _ h3, h4⟩
      | obj C fs =>
        obtain ⟨b0, dx, fv, h3, h4⟩ := q
        exact ⟨b0, dx, fv, sH _ _ h3, h4⟩
      | dic ds =>
        obtain ⟨b0, kv, h3, h4⟩ := q
        exact ⟨b0, kv, sH _ _ h3, h4⟩
      | gen φ =>
        obtain ⟨b0, kv, h3, h4⟩ := q
        exact ⟨b0, kv, sH _ _ h3, h4⟩
    · have l1 : n < (al ++ [p]).length := (List.getElem?_eq_some_iff.mp h1).1
      rw [List.length_append, List.length_singleton] at l1
      have en : n = al.length := by omega
      subst en
      rw [List.getElem?_append_right (Nat.le_refl _), Nat.sub_self] at h1
      rw [List.getElem?_append_right (by rw [S.mlen]; exact Nat.le_refl _), S.mlen, Nat.sub_self] at h2
      have e1 : p = a := Option.some.inj h1
      have e2 : m = m' := Option.some.inj h2
      exact e1 ▸ e2 ▸ hm
  · rw [List.nodup_append]
    refine ⟨S.nd, List.Pairwise.cons (fun _ z => by cases z) .nil, fun a h b h2 e => ?_⟩
    rw [List.mem_singleton] at h2
    exact nal (h2 ▸ e ▸ h)
  · rcases List.mem_append.mp h with h | h
    · exact P.stay a (S.there a h)
    · rw [List.mem_singleton] at h
      rw [h, upd_same]
      exact fun z => nomatch z
/-- an own object is changed -/
theorem Sit.write (S : Sit K B H al σ ss mem) {n : Nat} {a : Addr} {o : HO} {m : Mc} (hn : al[n]? = some a) (hb : B a = none) (hm : McOk K B (upd H a o) a m) : Stp B H al B (upd H a o) al ∧ Sit K B (upd H a o) al σ ss (mem.set n m) := by
  have ha : a ∈ al := List.mem_of_getElem? hn
  have P : Stp B H al B (upd H a o) al := by
    refine ⟨Same.refl B, fun b u e z => ?_, fun b h => .inl h, fun b h => ?_, [], by rw [List.append_nil], fun _ h => by cases h⟩
    · rw [upd_ne (fun (q : b = a) => z (by rw [q]; exact ha))]
      exact e
    · by_cases e : b = a
      · rw [e, upd_same]
        exact fun z => nomatch z
      · rw [upd_ne e]
        exact h
  refine ⟨P, fun b u e => ?_, S.len, S.slot, by rw [List.length_set]; exact S.mlen, fun n' a' m' h1 h2 => ?_, S.nd, fun a' h => P.stay a' (S.there a' h)⟩
  · rw [upd_ne (ne_of_none e hb)]
    exact S.sub b u e
  · by_cases e : n' = n
    · subst e
      have ea : a' = a := Option.some.inj (h1.symm.trans hn)
      have hl : n' < mem.length := by
        have := (List.getElem?_eq_some_iff.mp h2).1
        rwa [List.length_set] at this
      rw [List.getElem?_set_self hl] at h2
      have em : m = m' := Option.some.inj h2
      rw [ea, ← em]
      exact hm
    · rw [List.getElem?_set_ne (Ne.symm e)] at h2
      have q := S.mem n' a' m' h1 h2
      have na : a' ≠ a := fun z => e (nd_ix S.nd h1 (z ▸ hn))
      cases m' with
      | gone => trivial
      | lst ds =>
        obtain ⟨b0, xs, h3, h4⟩ := q
        exact ⟨b0, xs, by rw [upd_ne na]; exact h3, h4⟩
      | obj C fs =>
        obtain ⟨b0, dx, fv, h3, h4⟩ := q
        exact ⟨b0, dx, fv, by rw [upd_ne na]; exact h3, h4⟩
      | dic ds =>
        obtain ⟨b0, kv, h3, h4⟩ := q
        exact ⟨b0, kv, by rw [upd_ne na]; exact h3, h4⟩
      | gen φ =>
        obtain ⟨b0, kv, h3, h4⟩ := q
        exact ⟨b0, kv, by rw [upd_ne na]; exact h3, h4⟩
/-- an own object becomes data -/
theorem Sit.freeze (S : Sit K B H al σ ss mem) {n : Nat} {a : Addr} {o : HO} (hn : al[n]? = some a) (hb : B a = none) (ho : H a = some o) : Stp B H al (upd B a o) H al ∧ Sit K (upd B a o) H al σ ss (mem.set n .gone) := by
  have ha : a ∈ al := List.mem_of_getElem? hn
  have sB : Same B (upd B a o) := fun b u e => by rw [upd_ne (ne_of_none e hb)]; exact e
  have P : Stp B H al (upd B a o) H al := by
    refine ⟨sB, fun b u e z => e, fun b h => ?_, fun b h => h, [], by rw [List.append_nil], fun _ h => by cases h⟩
    by_cases e : b = a
    · exact .inr (.inr (.inl (e ▸ ha)))
    · rw [upd_ne e] at h
      exact .inl h
  refine ⟨P, fun b u e => ?_, S.len, fun i r e => ?_, by rw [List.length_set]; exact S.mlen, fun n' a' m' h1 h2 => ?_, S.nd, S.there⟩
  · by_cases q : b = a
    · subst q
      rw [upd_same] at e
      exact ho.trans e
    · rw [upd_ne q] at e
      exact S.sub b u e
  · obtain ⟨v, h1, h2⟩ := S.slot i r e
    exact ⟨v, h1, h2.step P⟩
  · by_cases e : n' = n
    · subst e
      have hl : n' < mem.length := by
        have := (List.getElem?_eq_some_iff.mp h2).1
        rwa [List.length_set] at this
      rw [List.getElem?_set_self hl] at h2
      have em : Mc.gone = m' := Option.some.inj h2
      exact em ▸ trivial
    · rw [List.getElem?_set_ne (Ne.symm e)] at h2
      have q := S.mem n' a' m' h1 h2
      have na : a' ≠ a := fun z => e (nd_ix S.nd h1 (z ▸ hn))
      cases m' with
      | gone => trivial
      | lst ds =>
        obtain ⟨b0, xs, h3, h4⟩ := q
        exact ⟨by rw [upd_ne na]; exact b0, xs, h3, RepAll.mono sB ds h4⟩
      | obj C fs =>
        obtain ⟨b0, dx, fv, h3, h4⟩ := q
        exact ⟨by rw [upd_ne na]; exact b0, dx, fv, h3, RepFs.mono sB fs h4⟩
      | dic ds =>
        obtain ⟨b0, kv, h3, h4⟩ := q
        exact ⟨by rw [upd_ne na]; exact b0, kv, h3, RepKv.mono sB ds h4⟩
      | gen φ =>
        obtain ⟨b0, kv, h3, h5, h4⟩ := q
        exact ⟨by rw [upd_ne na]; exact b0, kv, h3, h5, fun B2 e => h4 B2 ((Alike.of sB).trans e)⟩
/-- a slot is set -/
theorem Sit.put (S : Sit K B H al σ ss mem) {i : Nat} {v : V} {r : Option Vl} (hv : ∀ q, r = some q → VlOk K B al v q) : Sit K B H al (σ.set i (some v)) (ss.set i r) mem := by
  refine ⟨S.sub, by rw [List.length_set, List.length_set]; exact S.len, fun j q e => ?_, S.mlen, S.mem, S.nd, S.there⟩
  by_cases h : j = i
  · subst h
    have hl : j < ss.length := by
      have := (List.getElem?_eq_some_iff.mp e).1
      rwa [List.length_set] at this
    rw [List.getElem?_set_self hl] at e
    exact ⟨v, by rw [List.getElem?_set_self (by rw [S.len]; exact hl)], hv q (Option.some.inj e)⟩
  · rw [List.getElem?_set_ne (Ne.symm h)] at e
    rw [List.getElem?_set_ne (Ne.symm h)]
    exact S.slot j q e
/-- slots are forgotten -/
theorem Sit.less (S : Sit K B H al σ ss mem) {ss' : Sl} (hl : ss'.length = ss.length) (h : ∀ (i : Nat) (r : Vl), ss'[i]? = some (some r) → ss[i]? = some (some r)) : Sit K B H al σ ss' mem :=
  ⟨S.sub, by rw [hl]; exact S.len, fun i r e => S.slot i r (h i r e), S.mlen, S.mem, S.nd, S.there⟩
/-- the last own objects are forgotten -/
theorem Sit.drop {more : List Mc} (S : Sit K B H al σ ss (mem ++ more)) (h : ∀ (i n : Nat), ss[i]? = some (some (Vl.own n)) → n < mem.length) : Sit K B H (al.take mem.length) σ ss mem := by
  have hl : al.length = mem.length + more.length := by rw [S.mlen, List.length_append]
  have gt : ∀ n, n < mem.length → (al.take mem.length)[n]? = al[n]? := fun n h => List.getElem?_take_of_lt h
  refine ⟨S.sub, S.len, fun i r e => ?_, by rw [List.length_take]; omega, fun n a m h1 h2 => ?_, S.nd.sublist (List.take_sublist _ _), fun a h => S.there a (List.mem_of_mem_take h)⟩
  · obtain ⟨v, h1, h2⟩ := S.slot i r e
    refine ⟨v, h1, ?_⟩
    cases r with
    | dat d => exact h2
    | own n =>
      obtain ⟨x, h3, h4⟩ := h2
      exact ⟨x, by rw [gt n (h i n e)]; exact h3, h4⟩
    | tl ds => exact h2
    | lk ds => exact h2
  · have hn : n < mem.length := (List.getElem?_eq_some_iff.mp h2).1
    rw [gt n hn] at h1
    exact S.mem n a m h1 (by rw [List.getElem?_append_left hn]; exact h2)
theorem Stp.drop (P : Stp B H al B' H' al') (n : Nat) (h : al.length ≤ n) : Stp B H al B' H' (al'.take n) := by
  obtain ⟨ex, q, z⟩ := P.ext
  refine ⟨P.same, P.frame, P.fresh, P.stay, ex.take (n - al.length), ?_, fun a h => z a (List.mem_of_mem_take h)⟩
  rw [q, List.take_append, List.take_of_length_le h]
end
end DL
end
section
set_option Elab.async false
set_option linter.all false
set_option maxRecDepth 100000
namespace DL
open PySem PySem.Spec PyProof.Rows L2
section
variable (K : PySem.W.Frag)
/-- an expression: from these slots and own objects it gives r and leaves mem' -/
def DT (t : TE) (ss : Sl) (mem : List Mc) (r : Vl) (mem' : List Mc) : Prop :=
  ∀ (B H : Hp) (al : List Addr) (σ : L2.St) (Q : VK), Sit K B H al σ ss mem → (∀ B' H' al' v, Stp B H al B' H' al' → Sit K B' H' al' σ ss mem' → VlOk K B' al' v r → Q v H') → t σ H Q
def DB (t : TT) (ss : Sl) (mem : List Mc) (b : Bool) (mem' : List Mc) : Prop :=
  ∀ (B H : Hp) (al : List Addr) (σ : L2.St) (Q : Bool → Hp → Prop), Sit K B H al σ ss mem → (∀ B' H' al', Stp B H al B' H' al' → Sit K B' H' al' σ ss mem' → Q b H') → t σ H Q
/-- arguments that are data -/
def DA (t : TA) (ss : Sl) (mem : List Mc) (ds : List D) (mem' : List Mc) : Prop :=
  ∀ (B H : Hp) (al : List Addr) (σ : L2.St) (Q : List V → Hp → Prop), Sit K B H al σ ss mem → (∀ B' H' al' vs, Stp B H al B' H' al' → Sit K B' H' al' σ ss mem' → RepAll K B' vs ds → Q vs H') → t σ H Q
/-- the first argument own, the others data -/
def DAO (t : TA) (ss : Sl) (mem : List Mc) (n : Nat) (ds : List D) (mem' : List Mc) : Prop :=
  ∀ (B H : Hp) (al : List Addr) (σ : L2.St) (Q : List V → Hp → Prop), Sit K B H al σ ss mem → (∀ B' H' al' v vs, Stp B H al B' H' al' → Sit K B' H' al' σ ss mem' → VlOk K B' al' v (.own n) → RepAll K B' vs ds → Q (v :: vs) H') → t σ H Q
/-- an optional part of a slice -/
def DO (t : TO) (ss : Sl) (mem : List Mc) (i : Option Int) (mem' : List Mc) : Prop :=
  ∀ (B H : Hp) (al : List Addr) (σ : L2.St) (Q : Option Int → Hp → Prop), Sit K B H al σ ss mem → (∀ B' H' al', Stp B H al B' H' al' → Sit K B' H' al' σ ss mem' → Q i H') → t σ H Q
end
section
variable {K : PySem.W.Frag} {ss : Sl} {mem m1 m2 m3 m4 : List Mc} {ta tb tc te : TE} {i j : Int} {d e : D} {r r' : Vl}

theorem dt_var {i : Nat} (h : ss[i]? = some (some r)) : DT K (tVar i) ss mem r mem := fun B H al σ Q S k => by
  obtain ⟨v, h1, h2⟩ := S.slot i r h
  exact ⟨v, h1, k _ _ _ v (Stp.refl _ _ _) S h2⟩
theorem dt_c {v : V} (h : ∀ B, Rep K B v d) : DT K (tC v) ss mem (.dat d) mem := fun B H al σ Q S k => k _ _ _ v (Stp.refl _ _ _) S (h B)
theorem dt_int {i : Int} : DT K (tC (.int i)) ss mem (.dat (.int i)) mem := dt_c fun _ => .int i
theorem dt_bl {b : Bool} : DT K (tC (.bl b)) ss mem (.dat (.bl b)) mem := dt_c fun _ => .bl b
theorem dt_non : DT K (tC .non) ss mem (.dat .non) mem := dt_c fun _ => .non
theorem dt_str {x : Str} : DT K (tC (.str x)) ss mem (.dat (.str x)) mem := dt_c fun _ => .str x
theorem da_nil : DA K tNil ss mem [] mem := fun B H al σ Q S k => k _ _ _ [] (Stp.refl _ _ _) S .nil
theorem da_cons {t : TA} {ds : List D} (h1 : DT K ta ss mem (.dat d) m1) (h2 : DA K t ss m1 ds m2) : DA K (tCons ta t) ss mem (d :: ds) m2 := fun B H al σ Q S k =>
  h1 B H al σ _ S fun B1 H1 al1 v P1 S1 r1 => h2 B1 H1 al1 σ _ S1 fun B2 H2 al2 vs P2 S2 r2 => k _ _ _ _ (P1.trans P2) S2 (.cons (Rep.mono P2.same d r1) r2)
theorem dao_cons {t : TA} {n : Nat} {ds : List D} (h1 : DT K ta ss mem (.own n) m1) (h2 : DA K t ss m1 ds m2) : DAO K (tCons ta t) ss mem n ds m2 := fun B H al σ Q S k =>
  h1 B H al σ _ S fun B1 H1 al1 v P1 S1 r1 => h2 B1 H1 al1 σ _ S1 fun B2 H2 al2 vs P2 S2 r2 => k _ _ _ _ _ (P1.trans P2) S2 (r1.step P2) r2

/-- an operator by values -/
def DR2 (K : PySem.W.Frag) (rr : R2) (ss : Sl) (mem : List Mc) (x y : Vl) (r : Vl) (mem' : List Mc) : Prop :=
  ∀ (B H : Hp) (al : List Addr) (σ : L2.St) (v w : V) (Q : VK), Sit K B H al σ ss mem → VlOk K B al v x → VlOk K B al w y → (∀ B' H' al' z, Stp B H al B' H' al' → Sit K B' H' al' σ ss mem' → VlOk K B' al' z r → Q z H') → rr v w H Q
theorem dt_op {rr : R2} {x y : Vl} (ha : DT K ta ss mem x m1) (hb : DT K tb ss m1 y m2) (hr : DR2 K rr ss m2 x y r m3) : DT K (tOp rr ta tb) ss mem r m3 := fun B H al σ Q S k =>
  ha B H al σ _ S fun B1 H1 al1 v P1 S1 r1 => hb B1 H1 al1 σ _ S1 fun B2 H2 al2 w P2 S2 r2 => hr B2 H2 al2 σ v w Q S2 (r1.step P2) r2 fun B3 H3 al3 z P3 S3 r3 => k _ _ _ _ ((P1.trans P2).trans P3) S3 r3
theorem dr_i0 {g : Int → Int → V} (h : ∀ B, Rep K B (g i j) d) : DR2 K (rI0 g) ss mem (.dat (.int i)) (.dat (.int j)) (.dat d) mem := fun B H al σ v w Q S hv hw k => by
  cases hv
  cases hw
  exact ⟨i, j, rfl, rfl, k _ _ _ _ (Stp.refl _ _ _) S (h B)⟩
theorem dr_ic {C : Int → Int → Prop} {g : Int → Int → V} (hc : C i j) (h : ∀ B, Rep K B (g i j) d) : DR2 K (rI C g) ss mem (.dat (.int i)) (.dat (.int j)) (.dat d) mem := fun B H al σ v w Q S hv hw k => by
  cases hv
  cases hw
  exact ⟨i, j, rfl, rfl, hc, k _ _ _ _ (Stp.refl _ _ _) S (h B)⟩
/-- a + b, a - b -/
theorem dt_i0 {g : Int → Int → Int} (ha : DT K ta ss mem (.dat (.int i)) m1) (hb : DT K tb ss m1 (.dat (.int j)) m2) : DT K (tOp (rI0 fun a b => .int (g a b)) ta tb) ss mem (.dat (.int (g i j))) m2 :=
  dt_op ha hb (dr_i0 fun _ => .int _)
/-- a < b .. -/
theorem dt_i0b {g : Int → Int → Bool} (ha : DT K ta ss mem (.dat (.int i)) m1) (hb : DT K tb ss m1 (.dat (.int j)) m2) : DT K (tOp (rI0 fun a b => .bl (g a b)) ta tb) ss mem (.dat (.bl (g i j))) m2 :=
  dt_op ha hb (dr_i0 fun _ => .bl _)
/-- a * b, a // b, a % b -/
theorem dt_ic {C : Int → Int → Prop} {g : Int → Int → Int} (ha : DT K ta ss mem (.dat (.int i)) m1) (hb : DT K tb ss m1 (.dat (.int j)) m2) (hc : C i j) : DT K (tOp (rI C fun a b => .int (g a b)) ta tb) ss mem (.dat (.int (g i j))) m2 :=
  dt_op ha hb (dr_ic hc fun _ => .int _)
/-- == of ints -/
theorem dt_eqI (ha : DT K ta ss mem (.dat (.int i)) m1) (hb : DT K tb ss m1 (.dat (.int j)) m2) : DT K (tOp rEq ta tb) ss mem (.dat (.bl (decide (i = j)))) m2 :=
  dt_op ha hb fun B H al σ v w Q S hv hw k => by
    cases hv
    cases hw
    refine ⟨rfl, k _ _ _ _ (Stp.refl _ _ _) S ?_⟩
    have e : decide (V.int i = V.int j) = decide (i = j) := by simp
    rw [e]
    exact .bl _
theorem dt_neI (ha : DT K ta ss mem (.dat (.int i)) m1) (hb : DT K tb ss m1 (.dat (.int j)) m2) : DT K (tOp rNe ta tb) ss mem (.dat (.bl (!decide (i = j)))) m2 :=
  dt_op ha hb fun B H al σ v w Q S hv hw k => by
    cases hv
    cases hw
    refine ⟨rfl, k _ _ _ _ (Stp.refl _ _ _) S ?_⟩
    have e : decide (V.int i = V.int j) = decide (i = j) := by simp
    rw [e]
    exact .bl _
def D.isN : D → Bool
  | .non => true
  | _ => false
theorem rep_isN {B : Hp} {v : V} (h : Rep K B v d) : decide (v = .non) = d.isN := by
  cases h <;> simp [D.isN]
theorem dt_isN (ha : DT K ta ss mem (.dat d) m1) : DT K (tIsN ta) ss mem (.dat (.bl d.isN)) m1 := fun B H al σ Q S k =>
  ha B H al σ _ S fun B1 H1 al1 v P1 S1 r1 => by
    show Q (.bl (decide (v = .non))) H1
    rw [rep_isN r1]
    exact k _ _ _ _ P1 S1 (.bl _)
theorem dt_notN (ha : DT K ta ss mem (.dat d) m1) : DT K (tNotN ta) ss mem (.dat (.bl (!d.isN))) m1 := fun B H al σ Q S k =>
  ha B H al σ _ S fun B1 H1 al1 v P1 S1 r1 => by
    show Q (.bl (!decide (v = .non))) H1
    rw [rep_isN r1]
    exact k _ _ _ _ P1 S1 (.bl _)
/-- items by place -/
theorem RepAll.atI {B : Hp} {xs : List V} {ds : List D} {i : Int} {d : D} (h : RepAll K B xs ds) (e : L2.atI ds i = some d) : ∃ v, L2.atI xs i = some v ∧ Rep K B v d := by
  unfold L2.atI at e ⊢
  rw [h.len]
  cases q : ixN ds.length i with
  | none => rw [q] at e; cases e
  | some n =>
    rw [q] at e
    exact h.get (i := n) e
theorem Sit.seqT {B H : Hp} {al : List Addr} {σ : L2.St} {a : Addr} {xs : List V} (S : Sit K B H al σ ss mem) (h : SqT K B a xs) : SqT K H a xs := sameT S.sub h
theorem Sit.seqL {B H : Hp} {al : List Addr} {σ : L2.St} {a : Addr} {xs : List V} (S : Sit K B H al σ ss mem) (h : SqL K B a xs) : SqL K H a xs := S.sub.seq h
theorem dt_ixT {ds : List D} (ha : DT K ta ss mem (.dat (.tup ds)) m1) (hb : DT K tb ss m1 (.dat (.int i)) m2) (h : L2.atI ds i = some d) : DT K (tOp (rIxT K) ta tb) ss mem (.dat d) m2 :=
  dt_op ha hb fun B H al σ v w Q S hv hw k => by
    cases hv with
    | tup s r =>
      cases hw
      obtain ⟨x, h1, h2⟩ := r.atI h
      exact ⟨_, _, i, x, rfl, rfl, S.seqT (SqT.of s), h1, k _ _ _ _ (Stp.refl _ _ _) S h2⟩
theorem dt_ixC {ds : List D} (ha : DT K ta ss mem (.dat (.ctp ds)) m1) (hb : DT K tb ss m1 (.dat (.int i)) m2) (h : L2.atI ds i = some d) : DT K (tOp (rIxT K) ta tb) ss mem (.dat d) m2 :=
  dt_op ha hb fun B H al σ v w Q S hv hw k => by
    cases hv with
    | ctp s r =>
      cases hw
      obtain ⟨x, h1, h2⟩ := r.atI h
      exact ⟨_, _, i, x, rfl, rfl, S.seqT s, h1, k _ _ _ _ (Stp.refl _ _ _) S h2⟩
theorem dt_ixL {ds : List D} (ha : DT K ta ss mem (.dat (.lst ds)) m1) (hb : DT K tb ss m1 (.dat (.int i)) m2) (h : L2.atI ds i = some d) : DT K (tOp (rIxL K) ta tb) ss mem (.dat d) m2 :=
  dt_op ha hb fun B H al σ v w Q S hv hw k => by
    cases hv with
    | lst s r =>
      cases hw
      obtain ⟨x, h1, h2⟩ := r.atI h
      exact ⟨_, _, i, x, rfl, rfl, S.seqL s, h1, k _ _ _ _ (Stp.refl _ _ _) S h2⟩
theorem dt_ixO {n : Nat} {ds : List D} (ha : DT K ta ss mem (.own n) m1) (hb : DT K tb ss m1 (.dat (.int i)) m2) (hm : m2[n]? = some (.lst ds)) (h : L2.atI ds i = some d) : DT K (tOp (rIxL K) ta tb) ss mem (.dat d) m2 :=
  dt_op ha hb fun B H al σ v w Q S hv hw k => by
    obtain ⟨a, h1, rfl⟩ := hv
    cases hw
    obtain ⟨_, xs, h2, h3⟩ := S.mem n a _ h1 hm
    obtain ⟨x, h4, h5⟩ := h3.atI h
    exact ⟨_, _, i, x, rfl, rfl, SqL.of h2, h4, k _ _ _ _ (Stp.refl _ _ _) S h5⟩
/-- t < u (tuples of ints) -/
theorem dt_ltT {ns ms : List Int} (ha : DT K ta ss mem (.dat (.tup (ns.map .int))) m1) (hb : DT K tb ss m1 (.dat (.tup (ms.map .int))) m2) : DT K (tOp (rLtT K) ta tb) ss mem (.dat (.bl (HT.lexLt ns ms))) m2 :=
  dt_op ha hb fun B H al σ v w Q S hv hw k => by
    cases hv with
    | tup s r =>
      cases hw with
      | tup s' r' =>
        cases r.ints
        cases r'.ints
        exact ⟨_, _, ns, ms, rfl, rfl, S.seqT (SqT.of s), S.seqT (SqT.of s'), k _ _ _ _ (Stp.refl _ _ _) S (.bl _)⟩
/-- xs + ys, both own: a new own list -/
theorem dt_cat {n n' : Nat} {ds es : List D} (ha : DT K ta ss mem (.own n) m1) (hb : DT K tb ss m1 (.own n') m2) (h1 : m2[n]? = some (.lst ds)) (h2 : m2[n']? = some (.lst es)) (hl : ds.length + es.length ≤ 16777216) :
    DT K (tOp rCat ta tb) ss mem (.own m2.length) (m2 ++ [.lst (ds ++ es)]) :=
  dt_op ha hb fun B H al σ v w Q S hv hw k => by
    obtain ⟨a, a1, rfl⟩ := hv
    obtain ⟨b, b1, rfl⟩ := hw
    obtain ⟨_, xs, a2, a3⟩ := S.mem n a _ a1 h1
    obtain ⟨_, ys, b2, b3⟩ := S.mem n' b _ b1 h2
    refine ⟨a, b, xs, ys, rfl, rfl, a2, b2, by rw [a3.len, b3.len, sizeLine_eq]; exact hl, fun p np => ?_⟩
    have nb : B p = none := S.sub.free np
    obtain ⟨P, S'⟩ := S.layOwn (o := .lst (xs ++ ys)) (m := .lst (ds ++ es)) np ⟨nb, _, upd_same, a3.append b3⟩
    exact k _ _ _ _ P S' ⟨p, by rw [← S.mlen, List.getElem?_append_right (Nat.le_refl _), Nat.sub_self]; rfl, rfl⟩
theorem dt_un {g : Int → Int} (ha : DT K ta ss mem (.dat (.int i)) m1) : DT K (tUn (rU fun a => .int (g a)) ta) ss mem (.dat (.int (g i))) m1 := fun B H al σ Q S k =>
  ha B H al σ _ S fun B1 H1 al1 v P1 S1 r1 => by
    cases r1
    exact ⟨i, rfl, k _ _ _ _ P1 S1 (.int _)⟩
/-! tests -/
theorem db_test {b : Bool} (h : DT K te ss mem (.dat (.bl b)) m1) : DB K (tTest te) ss mem b m1 := fun B H al σ Q S k =>
  h B H al σ _ S fun B1 H1 al1 v P1 S1 r1 => by
    cases r1
    exact ⟨b, rfl, k _ _ _ P1 S1⟩
theorem db_b {b : Bool} (h : DT K te ss mem (.dat (.bl b)) m1) : DB K (tB te) ss mem b m1 := fun B H al σ Q S k =>
  h B H al σ _ S fun B1 H1 al1 v P1 S1 r1 => by
    cases r1
    exact ⟨b, rfl, k _ _ _ P1 S1⟩
theorem db_not {t : TT} {b : Bool} (h : DB K t ss mem b m1) : DB K (tNot t) ss mem (!b) m1 := fun B H al σ Q S k => h B H al σ _ S k
theorem db_and_t {t u : TT} {b : Bool} (h : DB K t ss mem true m1) (g : DB K u ss m1 b m2) : DB K (tAnd t u) ss mem b m2 := fun B H al σ Q S k =>
  h B H al σ _ S fun B1 H1 al1 P1 S1 => iteT (g B1 H1 al1 σ _ S1 fun B2 H2 al2 P2 S2 => k _ _ _ (P1.trans P2) S2)
theorem db_and_f {t u : TT} (h : DB K t ss mem false m1) : DB K (tAnd t u) ss mem false m1 := fun B H al σ Q S k =>
  h B H al σ _ S fun B1 H1 al1 P1 S1 => iteF (k _ _ _ P1 S1)
theorem db_or_t {t u : TT} (h : DB K t ss mem true m1) : DB K (tOr t u) ss mem true m1 := fun B H al σ Q S k =>
  h B H al σ _ S fun B1 H1 al1 P1 S1 => iteT (k _ _ _ P1 S1)
theorem db_or_f {t u : TT} {b : Bool} (h : DB K t ss mem false m1) (g : DB K u ss m1 b m2) : DB K (tOr t u) ss mem b m2 := fun B H al σ Q S k =>
  h B H al σ _ S fun B1 H1 al1 P1 S1 => iteF (g B1 H1 al1 σ _ S1 fun B2 H2 al2 P2 S2 => k _ _ _ (P1.trans P2) S2)
/-- both tests without a change -/
theorem db_and {t u : TT} {a b : Bool} (h : DB K t ss mem a mem) (g : a = true → DB K u ss mem b mem) : DB K (tAnd t u) ss mem (a && b) mem := by
  cases a with
  | true => exact db_and_t h (g rfl)
  | false => exact db_and_f h
theorem db_or {t u : TT} {a b : Bool} (h : DB K t ss mem a mem) (g : a = false → DB K u ss mem b mem) : DB K (tOr t u) ss mem (a || b) mem := by
  cases a with
  | true => exact db_or_t h
  | false => exact db_or_f h (g rfl)
theorem dt_andV_t {b : Bool} (h : DT K ta ss mem (.dat (.bl true)) m1) (g : DT K tb ss m1 r m2) : DT K (tAndV ta tb) ss mem r m2 := fun B H al σ Q S k =>
  h B H al σ _ S fun B1 H1 al1 v P1 S1 r1 => by
    cases r1
    exact ⟨true, rfl, iteT (g B1 H1 al1 σ _ S1 fun B2 H2 al2 v P2 S2 r2 => k _ _ _ _ (P1.trans P2) S2 r2)⟩
theorem dt_andV_f (h : DT K ta ss mem (.dat (.bl false)) m1) : DT K (tAndV ta tb) ss mem (.dat (.bl false)) m1 := fun B H al σ Q S k =>
  h B H al σ _ S fun B1 H1 al1 v P1 S1 r1 => by
    cases r1
    exact ⟨false, rfl, iteF (k _ _ _ _ P1 S1 (.bl _))⟩
theorem dt_andV {a b : Bool} (h : DT K ta ss mem (.dat (.bl a)) mem) (g : a = true → DT K tb ss mem (.dat (.bl b)) mem) : DT K (tAndV ta tb) ss mem (.dat (.bl (a && b))) mem := by
  cases a with
  | true => exact dt_andV_t (b := b) h (g rfl)
  | false => exact dt_andV_f h
theorem dt_orV_t (h : DT K ta ss mem (.dat (.bl true)) m1) : DT K (tOrV ta tb) ss mem (.dat (.bl true)) m1 := fun B H al σ Q S k =>
  h B H al σ _ S fun B1 H1 al1 v P1 S1 r1 => by
    cases r1
    exact ⟨true, rfl, iteT (k _ _ _ _ P1 S1 (.bl _))⟩
theorem dt_orV_f (h : DT K ta ss mem (.dat (.bl false)) m1) (g : DT K tb ss m1 r m2) : DT K (tOrV ta tb) ss mem r m2 := fun B H al σ Q S k =>
  h B H al σ _ S fun B1 H1 al1 v P1 S1 r1 => by
    cases r1
    exact ⟨false, rfl, iteF (g B1 H1 al1 σ _ S1 fun B2 H2 al2 v P2 S2 r2 => k _ _ _ _ (P1.trans P2) S2 r2)⟩
theorem dt_orV {a b : Bool} (h : DT K ta ss mem (.dat (.bl a)) mem) (g : a = false → DT K tb ss mem (.dat (.bl b)) mem) : DT K (tOrV ta tb) ss mem (.dat (.bl (a || b))) mem := by
  cases a with
  | true => exact dt_orV_t h
  | false => exact dt_orV_f h (g rfl)
theorem dt_notV {b : Bool} (h : DT K ta ss mem (.dat (.bl b)) m1) : DT K (tNotV ta) ss mem (.dat (.bl (!b))) m1 := fun B H al σ Q S k =>
  h B H al σ _ S fun B1 H1 al1 v P1 S1 r1 => by
    cases r1
    exact ⟨b, rfl, k _ _ _ _ P1 S1 (.bl _)⟩
theorem dt_if_t {c : TT} (h : DB K c ss mem true m1) (g : DT K ta ss m1 r m2) : DT K (tIf c ta tb) ss mem r m2 := fun B H al σ Q S k =>
  h B H al σ _ S fun B1 H1 al1 P1 S1 => iteT (g B1 H1 al1 σ _ S1 fun B2 H2 al2 v P2 S2 r2 => k _ _ _ _ (P1.trans P2) S2 r2)
theorem dt_if_f {c : TT} (h : DB K c ss mem false m1) (g : DT K tb ss m1 r m2) : DT K (tIf c ta tb) ss mem r m2 := fun B H al σ Q S k =>
  h B H al σ _ S fun B1 H1 al1 P1 S1 => iteF (g B1 H1 al1 σ _ S1 fun B2 H2 al2 v P2 S2 r2 => k _ _ _ _ (P1.trans P2) S2 r2)
/-- a choice: both ways -/
theorem dt_if {c : TT} {b : Bool} (h : DB K c ss mem b m1) (g : if b = true then DT K ta ss m1 r m2 else DT K tb ss m1 r m2) : DT K (tIf c ta tb) ss mem r m2 := by
  cases b with
  | true => exact dt_if_t h g
  | false => exact dt_if_f h g
/-- a < b < c of ints, by values -/
theorem dt_chain {g g' : Int → Int → Bool} {k' : Int} (ha : DT K ta ss mem (.dat (.int i)) m1) (hb : DT K tb ss m1 (.dat (.int j)) m2) (hc : DT K tc ss m2 (.dat (.int k')) m2) :
    DT K (tChain (rI0 fun a b => .bl (g a b)) (rI0 fun a b => .bl (g' a b)) ta tb tc) ss mem (.dat (.bl (g i j && g' j k'))) m2 := fun B H al σ Q S k =>
  ha B H al σ _ S fun B1 H1 al1 v P1 S1 r1 => hb B1 H1 al1 σ _ S1 fun B2 H2 al2 w P2 S2 r2 => by
    cases r1
    cases r2
    refine ⟨i, j, rfl, rfl, g i j, rfl, ?_⟩
    cases q : g i j with
    | true => exact iteT (hc B2 H2 al2 σ _ S2 fun B3 H3 al3 x P3 S3 r3 => by
        cases r3
        exact ⟨j, k', rfl, rfl, k _ _ _ _ ((P1.trans P2).trans P3) S3 (by rw [q, Bool.true_and]; exact Rep.bl _)⟩)
    | false => exact iteF (k _ _ _ _ (P1.trans P2) S2 (by rw [q, Bool.false_and]; exact Rep.bl _))
/-! tuples, lists, slices -/
theorem dt_tup {t : TA} {ds : List D} (h : DA K t ss mem ds m1) (hl : ds.length ≤ 16777216 := by exact Nat.le_of_ble_eq_true rfl) : DT K (tTup t) ss mem (.dat (.tup ds)) m1 := fun B H al σ Q S k =>
  h B H al σ _ S fun B1 H1 al1 vs P1 S1 r1 => by
    refine ⟨by rw [r1.len, sizeLine_eq]; exact hl, fun p np => ?_⟩
    obtain ⟨P, S'⟩ := S1.lay (o := .tup vs) np
    exact k _ _ _ _ (P1.trans P) S' (.tup upd_same (RepAll.mono P.same ds r1))
theorem dt_lst {t : TA} {ds : List D} (h : DA K t ss mem ds m1) (hl : ds.length ≤ 16777216 := by exact Nat.le_of_ble_eq_true rfl) : DT K (tLst t) ss mem (.dat (.lst ds)) m1 := fun B H al σ Q S k =>
  h B H al σ _ S fun B1 H1 al1 vs P1 S1 r1 => by
    refine ⟨by rw [r1.len, sizeLine_eq]; exact hl, fun p np => ?_⟩
    obtain ⟨P, S'⟩ := S1.lay (o := .lst vs) np
    exact k _ _ _ _ (P1.trans P) S' (.lst (SqL.of upd_same) (RepAll.mono P.same ds r1))
theorem own_last {B : Hp} {al : List Addr} {σ : L2.St} {H : Hp} (S : Sit K B H al σ ss mem) (p : Addr) : VlOk K B (al ++ [p]) (.ref p) (.own mem.length) :=
  ⟨p, by rw [← S.mlen, List.getElem?_append_right (Nat.le_refl _), Nat.sub_self]; rfl, rfl⟩
theorem dt_lstO {t : TA} {ds : List D} (h : DA K t ss mem ds m1) (hl : ds.length ≤ 16777216 := by exact Nat.le_of_ble_eq_true rfl) : DT K (tLst t) ss mem (.own m1.length) (m1 ++ [.lst ds]) := fun B H al σ Q S k =>
  h B H al σ _ S fun B1 H1 al1 vs P1 S1 r1 => by
    refine ⟨by rw [r1.len, sizeLine_eq]; exact hl, fun p np => ?_⟩
    obtain ⟨P, S'⟩ := S1.layOwn (o := .lst vs) (m := .lst ds) np ⟨S1.sub.free np, vs, upd_same, r1⟩
    exact k _ _ _ _ (P1.trans P) S' (own_last S1 p)
theorem do_none : DO K tNoPart ss mem none mem := fun B H al σ Q S k => k _ _ _ (Stp.refl _ _ _) S
theorem do_some (h : DT K te ss mem (.dat (.int i)) m1) : DO K (tPart te) ss mem (some i) m1 := fun B H al σ Q S k =>
  h B H al σ _ S fun B1 H1 al1 v P1 S1 r1 => by
    cases r1
    exact ⟨i, rfl, k _ _ _ P1 S1⟩
def cutD (ds : List D) (lo hi : Option Int) : List D := (ds.drop (HT.sIx ds.length 0 lo)).take (HT.sIx ds.length ds.length hi - HT.sIx ds.length 0 lo)
theorem cut_rep {B : Hp} {vs : List V} {ds : List D} {lo hi : Option Int} (h : RepAll K B vs ds) : RepAll K B (cutV vs lo hi) (cutD ds lo hi) := by
  unfold cutV cutD
  rw [h.len]
  exact RepAll.take _ (RepAll.drop _ h)
theorem dt_slT {tl th : TO} {lo hi : Option Int} {ds : List D} (h : DT K te ss mem (.dat (.tup ds)) m1) (hl : DO K tl ss m1 lo m2) (hh : DO K th ss m2 hi m3) : DT K (tSl (rSlA K) te tl th) ss mem (.dat (.tup (cutD ds lo hi))) m3 := fun B H al σ Q S k =>
  h B H al σ _ S fun B1 H1 al1 v P1 S1 r1 => hl B1 H1 al1 σ _ S1 fun B2 H2 al2 P2 S2 => hh B2 H2 al2 σ _ S2 fun B3 H3 al3 P3 S3 => by
    have r3 := Rep.mono (P2.trans P3).same _ r1
    cases r3 with
    | @tup a xs _ s r =>
      refine ⟨a, xs, rfl, S3.seqT (SqT.of s), fun z => ?_, fun z p np => ?_⟩
      · have e : cutD ds lo hi = ds := by
          unfold cutD
          rw [r.len] at z
          rw [z.1, z.2]
          exact List.take_length
        rw [e] at k
        exact k _ _ _ _ ((P1.trans P2).trans P3) S3 (.tup s r)
      · obtain ⟨P, S'⟩ := S3.lay (o := .tup (cutV xs lo hi)) np
        exact k _ _ _ _ (((P1.trans P2).trans P3).trans P) S' (.tup upd_same (RepAll.mono P.same _ (cut_rep r)))
theorem dt_slL {tl th : TO} {lo hi : Option Int} {ds : List D} (h : DT K te ss mem (.dat (.lst ds)) m1) (hl : DO K tl ss m1 lo m2) (hh : DO K th ss m2 hi m3) : DT K (tSl (rSlL K) te tl th) ss mem (.dat (.lst (cutD ds lo hi))) m3 := fun B H al σ Q S k =>
  h B H al σ _ S fun B1 H1 al1 v P1 S1 r1 => hl B1 H1 al1 σ _ S1 fun B2 H2 al2 P2 S2 => hh B2 H2 al2 σ _ S2 fun B3 H3 al3 P3 S3 => by
    have r3 := Rep.mono (P2.trans P3).same _ r1
    cases r3 with
    | @lst a xs _ s r =>
      refine ⟨a, xs, rfl, S3.seqL s, fun p np => ?_⟩
      obtain ⟨P, S'⟩ := S3.lay (o := .lst (cutV xs lo hi)) np
      exact k _ _ _ _ (((P1.trans P2).trans P3).trans P) S' (.lst (SqL.of upd_same) (RepAll.mono P.same _ (cut_rep r)))
/-! objects -/
theorem dt_fld {C : Addr} {gs : List (Str × D)} {f : Str} (h : DT K te ss mem (.dat (.obj C gs)) m1) (c : Cls K C) (n : NoAttr K C f) (hf : gs.lookup f = some d) : DT K (tFld K te f) ss mem (.dat d) m1 := fun B H al σ Q S k =>
  h B H al σ _ S fun B1 H1 al1 v P1 S1 r1 => by
    cases r1 with
    | @obj a _ dx fs _ s r =>
      obtain ⟨x, h1, h2⟩ := r.look hf
      exact ⟨a, C, dx, fs, x, rfl, S1.sub _ _ s, c, n, h1, k _ _ _ _ P1 S1 h2⟩
theorem dt_fldO {C : Addr} {n : Nat} {gs : List (Str × D)} {f : Str} (h : DT K te ss mem (.own n) m1) (hm : m1[n]? = some (.obj C gs)) (c : Cls K C) (na : NoAttr K C f) (hf : gs.lookup f = some d) : DT K (tFld K te f) ss mem (.dat d) m1 := fun B H al σ Q S k =>
  h B H al σ _ S fun B1 H1 al1 v P1 S1 r1 => by
    obtain ⟨a, a1, rfl⟩ := r1
    obtain ⟨_, dx, fs, a2, a3⟩ := S1.mem n a _ a1 hm
    obtain ⟨x, h1, h2⟩ := a3.look hf
    exact ⟨a, C, dx, fs, x, rfl, a2, c, na, h1, k _ _ _ _ P1 S1 h2⟩
theorem dt_prop {C : Addr} {gs : List (Str × D)} {f : Str} {E : XK} (h : DT K te ss mem (.dat (.obj C gs)) m1) (hf : gs.lookup f = some d) : DT K (tProp C (getSp C f) [] E te) ss mem (.dat d) m1 := fun B H al σ Q S k =>
  h B H al σ _ S fun B1 H1 al1 v P1 S1 r1 => by
    cases r1 with
    | @obj a _ dx fs _ s r =>
      obtain ⟨x, h1, h2⟩ := r.look hf
      exact ⟨a, dx, fs, rfl, S1.sub _ _ s, a, dx, fs, x, rfl, S1.sub _ _ s, h1, k _ _ _ _ P1 S1 h2⟩
/-! an own object becomes data -/
theorem Sit.frz {B H : Hp} {al : List Addr} {σ : L2.St} (S : Sit K B H al σ ss mem) {n : Nat} {v : V} {ds : List D} (hv : VlOk K B al v (.own n)) (hm : mem[n]? = some (.lst ds)) :
    ∃ B', Stp B H al B' H al ∧ Sit K B' H al σ ss (mem.set n .gone) ∧ Rep K B' v (.lst ds) := by
  obtain ⟨a, a1, rfl⟩ := hv
  obtain ⟨b0, xs, a2, a3⟩ := S.mem n a _ a1 hm
  obtain ⟨P, S'⟩ := S.freeze a1 b0 a2
  exact ⟨_, P, S', .lst (SqL.of upd_same) (RepAll.mono P.same ds a3)⟩
theorem dt_frz {n : Nat} {ds : List D} (h : DT K te ss mem (.own n) m1) (hm : m1[n]? = some (.lst ds)) : DT K te ss mem (.dat (.lst ds)) (m1.set n .gone) := fun B H al σ Q S k =>
  h B H al σ _ S fun B1 H1 al1 v P1 S1 r1 => by
    obtain ⟨B2, P2, S2, r2⟩ := S1.frz r1 hm
    exact k _ _ _ _ (P1.trans P2) S2 r2
/-- a new own object that is let go -/
theorem dt_drop {m : Mc} (h : DT K te ss mem (.dat d) (m1 ++ [m])) (hs : ∀ (i n : Nat), ss[i]? = some (some (Vl.own n)) → n < m1.length) (hl : mem.length ≤ m1.length) : DT K te ss mem (.dat d) m1 := fun B H al σ Q S k =>
  h B H al σ _ S fun B1 H1 al1 v P1 S1 r1 => k _ _ _ v (P1.drop m1.length (by rw [S.mlen]; exact hl)) (S1.drop hs) r1
end
end DL
end
section
set_option Elab.async false
set_option linter.all false
set_option maxRecDepth 100000
namespace DL
open PySem PySem.Spec PyProof.Rows L2
/-! ### statements -/
inductive Out where
  | nx (ss : Sl) (mem : List Mc) | rt (r : Vl) (mem : List Mc) | bk (ss : Sl) (mem : List Mc) | ct (ss : Sl) (mem : List Mc)
def OutOk (K : PySem.W.Frag) (B H : Hp) (al : List Addr) (Dn : Ends) : Out → Prop
  | .nx ss mem => ∀ σ, Sit K B H al σ ss mem → Dn.nx σ H
  | .rt r mem => ∀ σ ss v, Sit K B H al σ ss mem → VlOk K B al v r → Dn.rt v H
  | .bk ss mem => ∀ σ, Sit K B H al σ ss mem → Dn.bk σ H
  | .ct ss mem => ∀ σ, Sit K B H al σ ss mem → Dn.ct σ H
def DS (K : PySem.W.Frag) (t : TS) (ss : Sl) (mem : List Mc) (out : Out) : Prop :=
  ∀ (B H : Hp) (al : List Addr) (σ : L2.St) (Dn : Ends), Sit K B H al σ ss mem → (∀ B' H' al', Stp B H al B' H' al' → OutOk K B' H' al' Dn out) → t Dn σ H
def Out.stops : Out → Bool
  | .nx _ _ => false
  | _ => true
section
variable {K : PySem.W.Frag} {ss ss1 ss2 : Sl} {mem m1 m2 m3 m4 : List Mc} {ta tb tc te : TE} {i j : Int} {d e : D} {r r' : Vl} {t u : TS} {out : Out}
theorem ds_seq (h : DS K t ss mem (.nx ss1 m1)) (g : DS K u ss1 m1 out) : DS K (tSeq t u) ss mem out := fun B H al σ Dn S k =>
  h B H al σ { Dn with nx := u Dn } S fun B1 H1 al1 P1 σ1 S1 => g B1 H1 al1 σ1 Dn S1 fun B2 H2 al2 P2 => k _ _ _ (P1.trans P2)
theorem ds_stop (h : DS K t ss mem out) (hs : out.stops = true := by rfl) : DS K (tSeq t u) ss mem out := fun B H al σ Dn S k =>
  h B H al σ { Dn with nx := u Dn } S fun B1 H1 al1 P1 => by
    have q := k _ _ _ P1
    cases out with
    | nx _ _ => cases hs
    | rt _ _ => exact q
    | bk _ _ => exact q
    | ct _ _ => exact q
theorem ds_next : DS K tNext ss mem (.nx ss mem) := fun B H al σ Dn S k => k _ _ _ (Stp.refl _ _ _) σ S
theorem ds_if {c : TT} {b : Bool} (h : DB K c ss mem b m1) (g : if b = true then DS K t ss m1 out else DS K u ss m1 out) : DS K (tIfS c t u) ss mem out := fun B H al σ Dn S k =>
  h B H al σ _ S fun B1 H1 al1 P1 S1 => by
    cases b with
    | true => exact iteT (g B1 H1 al1 σ Dn S1 fun B2 H2 al2 P2 => k _ _ _ (P1.trans P2))
    | false => exact iteF (g B1 H1 al1 σ Dn S1 fun B2 H2 al2 P2 => k _ _ _ (P1.trans P2))
theorem ds_if_t {c : TT} (h : DB K c ss mem true m1) (g : DS K t ss m1 out) : DS K (tIfS c t u) ss mem out := ds_if h g
theorem ds_if_f {c : TT} (h : DB K c ss mem false m1) (g : DS K u ss m1 out) : DS K (tIfS c t u) ss mem out := ds_if h g
theorem ds_ret (h : DT K te ss mem r m1) : DS K (tRet te) ss mem (.rt r m1) := fun B H al σ Dn S k =>
  h B H al σ _ S fun B1 H1 al1 v P1 S1 r1 => k _ _ _ P1 σ ss v S1 r1
theorem ds_retN : DS K tRetN ss mem (.rt (.dat .non) mem) := fun B H al σ Dn S k => k _ _ _ (Stp.refl _ _ _) σ ss _ S .non
theorem ds_drop (h : DT K te ss mem r m1) : DS K (tDrop te) ss mem (.nx ss m1) := fun B H al σ Dn S k =>
  h B H al σ _ S fun B1 H1 al1 v P1 S1 r1 => k _ _ _ P1 σ S1
theorem ds_break : DS K tBreak ss mem (.bk ss mem) := fun B H al σ Dn S k => k _ _ _ (Stp.refl _ _ _) σ S
theorem ds_cont : DS K tCont ss mem (.ct ss mem) := fun B H al σ Dn S k => k _ _ _ (Stp.refl _ _ _) σ S
theorem ds_set {i : Nat} (h : DT K te ss mem r m1) : DS K (tAsg te (gName i)) ss mem (.nx (ss.set i (some r)) m1) := fun B H al σ Dn S k =>
  h B H al σ _ S fun B1 H1 al1 v P1 S1 r1 => k _ _ _ P1 _ (S1.put fun q e => by cases e; exact r1)
/-- the first own slots and objects are let go (behind a block) -/
theorem ds_less {more : List Mc} (h : DS K t ss mem (.nx ss1 (m1 ++ more))) (hl : ss2.length = ss1.length) (hs : ∀ (i : Nat) (r : Vl), ss2[i]? = some (some r) → ss1[i]? = some (some r))
    (ho : ∀ (i n : Nat), ss2[i]? = some (some (Vl.own n)) → n < m1.length) (hm : mem.length ≤ m1.length) : DS K t ss mem (.nx ss2 m1) := fun B H al σ Dn S k =>
  h B H al σ Dn S fun B1 H1 al1 P1 σ1 S1 => k _ _ _ (P1.drop m1.length (by rw [S.mlen]; exact hm)) σ1 ((S1.less hl hs).drop ho)
/-- slots are let go -/
theorem ds_forget (h : DS K t ss mem (.nx ss1 m1)) (hl : ss2.length = ss1.length) (hs : ∀ (i : Nat) (r : Vl), ss2[i]? = some (some r) → ss1[i]? = some (some r)) : DS K t ss mem (.nx ss2 m1) := fun B H al σ Dn S k =>
  h B H al σ Dn S fun B1 H1 al1 P1 σ1 S1 => k _ _ _ P1 σ1 (S1.less hl hs)
/-- an own list at a slot becomes data, ahead of a statement -/
theorem Sit.frzSlot {B H : Hp} {al : List Addr} {σ : L2.St} (S : Sit K B H al σ ss mem) {i n : Nat} {ds : List D} (hi : ss[i]? = some (some (.own n))) (hm : mem[n]? = some (.lst ds)) :
    ∃ B', Stp B H al B' H al ∧ Sit K B' H al σ (ss.set i (some (.dat (.lst ds)))) (mem.set n .gone) := by
  obtain ⟨v, h1, h2⟩ := S.slot i _ hi
  obtain ⟨B', P, S', r⟩ := S.frz h2 hm
  refine ⟨B', P, S'.sub, by rw [List.length_set]; exact S'.len, fun j q e => ?_, S'.mlen, S'.mem, S'.nd, S'.there⟩
  by_cases hj : j = i
  · subst hj
    have hl : j < ss.length := (List.getElem?_eq_some_iff.mp hi).1
    rw [List.getElem?_set_self hl] at e
    have e' := Option.some.inj (Option.some.inj e)
    subst e'
    exact ⟨v, h1, r⟩
  · rw [List.getElem?_set_ne (Ne.symm hj)] at e
    exact S'.slot j q e
theorem ds_frz {n : Nat} {ds : List D} (i : Nat) (hi : ss[i]? = some (some (.own n))) (hm : mem[n]? = some (.lst ds)) (h : DS K t (ss.set i (some (.dat (.lst ds)))) (mem.set n .gone) out) : DS K t ss mem out := fun B H al σ Dn S k => by
  obtain ⟨B1, P1, S1⟩ := S.frzSlot hi hm
  exact h B1 H al σ Dn S1 fun B2 H2 al2 P2 => k _ _ _ (P1.trans P2)

/-! ### targets -/
def DG (K : PySem.W.Frag) (g : TG) (ss : Sl) (d : D) (ss' : Sl) (ws : List Nat) : Prop :=
  ∀ (B H : Hp) (al : List Addr) (σ : L2.St) (mem : List Mc) (v : V) (Q : L2.St → Hp → Prop), Sit K B H al σ ss mem → Rep K B v d →
    (∀ σ', Sit K B H al σ' ss' mem → (∀ vs : List Nat, (∀ w ∈ ws, w ∈ vs) → wipe σ' vs = wipe σ vs) → Q σ' H) → g v σ H Q
def DGs (K : PySem.W.Frag) (g : TGs) (ss : Sl) (ds : List D) (ss' : Sl) (ws : List Nat) : Prop :=
  ∀ (B H : Hp) (al : List Addr) (σ : L2.St) (mem : List Mc) (vs : List V) (Q : L2.St → Hp → Prop), Sit K B H al σ ss mem → RepAll K B vs ds →
    (∀ σ', Sit K B H al σ' ss' mem → (∀ us : List Nat, (∀ w ∈ ws, w ∈ us) → wipe σ' us = wipe σ us) → Q σ' H) → g vs σ H Q
theorem wipe_in {σ : L2.St} {i : Nat} : ∀ {vs : List Nat}, i ∈ vs → (wipe σ vs)[i]? = if i < σ.length then some none else none
  | [], h => by cases h
  | v :: vs, h => by
    unfold wipe
    by_cases e : v = i
    · subst e
      by_cases hl : v < σ.length
      · rw [if_pos hl, List.getElem?_set_self (by rw [wipe_length]; exact hl)]
      · rw [if_neg hl, List.getElem?_eq_none (by rw [List.length_set, wipe_length]; omega)]
    · rw [List.getElem?_set_ne e]
      exact wipe_in (by
        rcases List.mem_cons.mp h with z | z
        · exact absurd z.symm e
        · exact z)
theorem wipe_set {σ : L2.St} {i : Nat} {x : Option V} {vs : List Nat} (h : i ∈ vs) : wipe (σ.set i x) vs = wipe σ vs := by
  apply List.ext_getElem?
  intro j
  by_cases hj : j ∈ vs
  · rw [wipe_in hj, wipe_in hj, List.length_set]
  · rw [wipe_out hj, wipe_out hj, List.getElem?_set_ne (fun (z : i = j) => hj (by rw [← z]; exact h))]
theorem dg_name {i : Nat} : DG K (gName i) ss d (ss.set i (some (.dat d))) [i] := fun B H al σ mem v Q S r k =>
  k _ (S.put fun q e => by cases e; exact r) fun vs h => wipe_set (h i List.mem_cons_self)
theorem dgs_nil : DGs K gNil ss [] ss [] := fun B H al σ mem vs Q S r k => by
  cases r
  exact ⟨rfl, k σ S fun _ _ => rfl⟩
theorem dgs_cons {g : TG} {gs : TGs} {ds : List D} {w1 w2 : List Nat} (h1 : DG K g ss d ss1 w1) (h2 : DGs K gs ss1 ds ss2 w2) : DGs K (gCons g gs) ss (d :: ds) ss2 (w1 ++ w2) := fun B H al σ mem vs Q S r k => by
  cases r with
  | cons r1 r2 =>
    exact ⟨_, _, rfl, h1 B H al σ mem _ _ S r1 fun σ1 S1 k1 => h2 B H al σ1 mem _ _ S1 r2 fun σ2 S2 k2 => k σ2 S2 fun us h =>
      (k2 us fun w hw => h w (List.mem_append_right _ hw)).trans (k1 us fun w hw => h w (List.mem_append_left _ hw))⟩
theorem dg_tup {gs : TGs} {n : Nat} {ds : List D} {ws : List Nat} (h : DGs K gs ss ds ss1 ws) (hn : ds.length = n) : DG K (gTup K n gs) ss (.tup ds) ss1 ws := fun B H al σ mem v Q S r k => by
  cases r with
  | tup s ra => exact ⟨_, _, rfl, S.seqT (SqT.of s), by rw [ra.len]; exact hn, h B H al σ mem _ _ S ra k⟩
theorem ds_asg {g : TG} {ws : List Nat} (h : DT K te ss mem (.dat d) m1) (hg : DG K g ss d ss1 ws) : DS K (tAsg te g) ss mem (.nx ss1 m1) := fun B H al σ Dn S k =>
  h B H al σ _ S fun B1 H1 al1 v P1 S1 r1 => hg B1 H1 al1 σ _ v _ S1 r1 fun σ' S' _ => k _ _ _ P1 σ' S'
theorem ds_par {i j : Nat} {ta : TA} (h : DA K ta ss mem [d, e] m1) : DS K (tPar i j ta) ss mem (.nx ((ss.set i (some (.dat d))).set j (some (.dat e))) m1) := fun B H al σ Dn S k =>
  h B H al σ _ S fun B1 H1 al1 vs P1 S1 r1 => by
    cases r1 with
    | cons r1 r2 =>
      cases r2 with
      | cons r2 r3 =>
        cases r3
        exact ⟨_, _, rfl, k _ _ _ P1 _ ((S1.put fun q e => by cases e; exact r1).put fun q e => by cases e; exact r2)⟩
/-- xs[k] = e, xs own -/
theorem ds_setitem {to ti : TE} {n p : Nat} {ds : List D} {k : Int} (h : DT K te ss mem (.dat d) m1) (ho : DT K to ss m1 (.own n) m2) (hi : DT K ti ss m2 (.dat (.int k)) m3) (hm : m3[n]? = some (.lst ds)) (hk : ixN ds.length k = some p) :
    DS K (tAsg te (gSub to ti rSetL)) ss mem (.nx ss (m3.set n (.lst (ds.set p d)))) := fun B H al σ Dn S q =>
  h B H al σ _ S fun B1 H1 al1 v P1 S1 r1 => ho B1 H1 al1 σ _ S1 fun B2 H2 al2 o P2 S2 r2 => hi B2 H2 al2 σ _ S2 fun B3 H3 al3 x P3 S3 r3 => by
    cases r3
    obtain ⟨a, a1, rfl⟩ := r2.step P3
    obtain ⟨b0, xs, a2, a3⟩ := S3.mem n a _ a1 hm
    obtain ⟨P4, S4⟩ := S3.write (o := .lst (xs.set p v)) (m := .lst (ds.set p d)) a1 b0 ⟨b0, _, upd_same, RepAll.set (Rep.mono (P2.trans P3).same d r1) p a3⟩
    exact ⟨a, xs, k, p, rfl, rfl, a2, by rw [a3.len]; exact hk, q _ _ _ (((P1.trans P2).trans P3).trans P4) σ S4⟩
/-- xs.append(e), xs own -/
theorem dt_append {to : TE} {t : TA} {n : Nat} {ds : List D} (ho : DT K to ss mem (.own n) m1) (h : DA K t ss m1 [d] m2) (hm1 : m1[n]? = some (.lst ds)) (hm : m2[n]? = some (.lst ds)) (hl : ds.length < 16777216) :
    DT K (tBM K "list" rAppend to t) ss mem (.dat .non) (m2.set n (.lst (ds ++ [d]))) := fun B H al σ Q S k =>
  ho B H al σ _ S fun B1 H1 al1 v P1 S1 r1 => by
    obtain ⟨a, a1, rfl⟩ := r1
    obtain ⟨_, xs, a2, a3⟩ := S1.mem n a _ a1 hm1
    refine ⟨.inl ⟨rfl, xs, SqL.of a2⟩, h B1 H1 al1 σ _ S1 fun B2 H2 al2 vs P2 S2 r2 => ?_⟩
    cases r2 with
    | cons r2 r3 =>
      cases r3
      have a1' := P2.get a1
      obtain ⟨b0, ys, c2, c3⟩ := S2.mem n a _ a1' hm
      obtain ⟨P3, S3⟩ := S2.write (o := .lst (ys ++ [_])) (m := .lst (ds ++ [d])) a1' b0 ⟨b0, _, upd_same, c3.append (.cons r2 .nil)⟩
      exact ⟨a, ys, _, rfl, rfl, c2, by rw [c3.len, sizeLine_eq]; exact hl, k _ _ _ _ ((P1.trans P2).trans P3) S3 .non⟩
theorem RepFs.put {B : Hp} {f : Str} {v : V} {d : D} (r : Rep K B v d) : ∀ {gs : List (Str × D)} {fs : List (Str × V)}, RepFs K B fs gs → RepFs K B (putF f v fs) (putD f d gs)
  | [], _, h => by cases h; exact .cons r .nil
  | (g, x) :: gs, _, h => by
    cases h with
    | cons h1 h2 =>
      show RepFs K B (if g = f then _ else _) (if g = f then _ else _)
      by_cases e : g = f
      · rw [if_pos e, if_pos e]
        exact .cons r h2
      · rw [if_neg e, if_neg e]
        exact .cons h1 (RepFs.put r h2)
/-- o.f = e, o own -/
theorem ds_fld {C : Addr} {n : Nat} {f : Str} {gs : List (Str × D)} (h : DT K te ss mem (.dat d) m1) (ho : DT K ta ss m1 (.own n) m2) (hm : m2[n]? = some (.obj C gs)) (c : Cls K C) (na : NoAttr K C f) (hl : gs.length < 1000) :
    DS K (sFld K ta te f) ss mem (.nx ss (m2.set n (.obj C (putD f d gs)))) := fun B H al σ Dn S q =>
  h B H al σ _ S fun B1 H1 al1 v P1 S1 r1 => ho B1 H1 al1 σ _ S1 fun B2 H2 al2 o P2 S2 r2 => by
    obtain ⟨a, a1, rfl⟩ := r2
    obtain ⟨b0, dx, fv, a2, a3⟩ := S2.mem n a _ a1 hm
    obtain ⟨P3, S3⟩ := S2.write (o := .ins C dx (putF f v fv)) (m := .obj C (putD f d gs)) a1 b0 ⟨b0, dx, _, upd_same, a3.put (Rep.mono P2.same d r1)⟩
    exact ⟨a, C, dx, fv, rfl, a2, c, na, by rw [a3.len]; exact hl, q _ _ _ ((P1.trans P2).trans P3) σ S3⟩

/-! ### what is walked -/
/-- n turns, the i-th of which yields the data it i -/
def Walks (K : PySem.W.Frag) (B1 : Hp) (J : It) (n : Nat) (it : Nat → D) : Prop :=
  ∀ (B H : Hp) (al : List Addr) (σ : L2.St) (ss : Sl) (mem : List Mc), Same B1 B → Sit K B H al σ ss mem →
    (∀ i, i < n → J.go i H ∧ ∀ x H', J.yld i H x H' → ∃ B', Stp B H al B' H' al ∧ Sit K B' H' al σ ss mem ∧ Rep K B' x (it i)) ∧ (∀ i, n ≤ i → J.stop i H)
def DI (K : PySem.W.Frag) (wi : TI) (ss : Sl) (mem : List Mc) (n : Nat) (it : Nat → D) (mem' : List Mc) : Prop :=
  ∀ (B H : Hp) (al : List Addr) (σ : L2.St) (R : It → Hp → Prop), Sit K B H al σ ss mem → (∀ B' H' al' J, Stp B H al B' H' al' → Sit K B' H' al' σ ss mem' → Walks K B' J n it → R J H') → wi σ H R
theorem walks_range (B : Hp) (lo : Int) (n : Nat) : Walks K B (Itr lo n) n fun i => .int (lo + i) := fun B1 H al σ ss mem e S =>
  ⟨fun i hi => ⟨hi, fun x H' y => by
    obtain ⟨rfl, rfl⟩ := y
    exact ⟨B1, Stp.refl _ _ _, S, .int _⟩⟩, fun i hi => hi⟩
def nthD (ds : List D) (i : Nat) : D := ds.getD i .non
theorem nthD_get {ds : List D} {i : Nat} (h : i < ds.length) : ds[i]? = some (nthD ds i) := by
  unfold nthD
  rw [List.getD_eq_getElem?_getD, List.getElem?_eq_getElem h]
  rfl
theorem walks_list {B : Hp} {a : Addr} {xs : List V} {ds : List D} (s : SqL K B a xs) (r : RepAll K B xs ds) : Walks K B (Itl K a) ds.length (nthD ds) := fun B1 H al σ ss mem e S => by
  have s1 : SqL K H a xs := S.seqL (e.seq s)
  refine ⟨fun i hi => ?_, fun i hi => ⟨xs, s1, by rw [r.len]; exact hi⟩⟩
  obtain ⟨v, h1, h2⟩ := r.get (nthD_get hi)
  exact ⟨⟨xs, v, s1, h1⟩, fun x H' y => by
    obtain ⟨rfl, y⟩ := y
    have q := y xs s1
    rw [h1] at q
    cases q
    exact ⟨B1, Stp.refl _ _ _, S, Rep.mono e _ h2⟩⟩
theorem walks_tup {B : Hp} {a : Addr} {xs : List V} {ds : List D} (s : SqT K B a xs) (r : RepAll K B xs ds) : Walks K B (Itt K a) ds.length (nthD ds) := fun B1 H al σ ss mem e S => by
  have s1 : SqT K H a xs := S.seqT (sameT e s)
  refine ⟨fun i hi => ?_, fun i hi => ⟨xs, s1, by rw [r.len]; exact hi⟩⟩
  obtain ⟨v, h1, h2⟩ := r.get (nthD_get hi)
  exact ⟨⟨xs, v, s1, h1⟩, fun x H' y => by
    obtain ⟨rfl, y⟩ := y
    have q := y xs s1
    rw [h1] at q
    cases q
    exact ⟨B1, Stp.refl _ _ _, S, Rep.mono e _ h2⟩⟩
theorem di_rng1 {t : TA} {j : Int} (h : DA K t ss mem [.int j] m1) (h1 : -(2 ^ 62) ≤ j) (h2 : j < 2 ^ 62) : DI K (iRng1 t) ss mem j.toNat (fun i => .int (0 + i)) m1 := fun B H al σ R S k =>
  h B H al σ _ S fun B1 H1 al1 vs P1 S1 r1 => by
    cases r1 with
    | cons r1 r2 =>
      cases r2
      cases r1
      exact ⟨j, rfl, h1, h2, k _ _ _ _ P1 S1 (walks_range _ _ _)⟩
theorem di_rng2 {t : TA} {i j : Int} (h : DA K t ss mem [.int i, .int j] m1) (hb : -(2 ^ 62) ≤ i ∧ i < 2 ^ 62 ∧ -(2 ^ 62) ≤ j ∧ j < 2 ^ 62) : DI K (iRng2 t) ss mem (j - i).toNat (fun k => .int (i + k)) m1 := fun B H al σ R S k =>
  h B H al σ _ S fun B1 H1 al1 vs P1 S1 r1 => by
    cases r1 with
    | cons r1 r2 =>
      cases r2 with
      | cons r2 r3 =>
        cases r3
        cases r1
        cases r2
        exact ⟨i, j, rfl, hb, k _ _ _ _ P1 S1 (walks_range _ _ _)⟩
theorem di_list {ds : List D} (h : DT K te ss mem (.dat (.lst ds)) m1) : DI K (iList K te) ss mem ds.length (nthD ds) m1 := fun B H al σ R S k =>
  h B H al σ _ S fun B1 H1 al1 v P1 S1 r1 => by
    cases r1 with
    | lst s r => exact ⟨_, rfl, ⟨_, S1.seqL s⟩, k _ _ _ _ P1 S1 (walks_list s r)⟩
theorem di_tup {ds : List D} (h : DT K te ss mem (.dat (.tup ds)) m1) : DI K (iTup K te) ss mem ds.length (nthD ds) m1 := fun B H al σ R S k =>
  h B H al σ _ S fun B1 H1 al1 v P1 S1 r1 => by
    cases r1 with
    | tup s r => exact ⟨_, rfl, ⟨_, S1.seqT (SqT.of s)⟩, k _ _ _ _ P1 S1 (walks_tup (SqT.of s) r)⟩
/-- behind a piece that keeps all but these own objects -/
theorem Sit.back {B H B' H' : Hp} {al al' : List Addr} {σ σ2 : L2.St} {ss2 : Sl} (S : Sit K B H al σ ss mem) (P : Stp B H al B' H' al') (S' : Sit K B' H' al' σ2 ss2 m2) : Sit K B' H' al' σ ss m2 :=
  ⟨S'.sub, S.len, fun i r e => by
    obtain ⟨v, h1, h2⟩ := S.slot i r e
    exact ⟨v, h1, h2.step P⟩, S'.mlen, S'.mem, S'.nd, S'.there⟩

/-- for: the turns up to j, then the end, or a turn that leaves the loop -/
theorem ds_for {wi : TI} {g : TG} {tb : TS} {n : Nat} {it : Nat → D} (hi : DI K wi ss mem n it m1) (f : Nat → Sl) (m : Nat → List Mc) (f0 : f 0 = ss) (m0 : m 0 = m1) (j : Nat) (hj : j ≤ n)
    (step : ∀ i, i < j → ∃ ss' ws, DG K g (f i) (it i) ss' ws ∧ (DS K tb ss' (m i) (.nx (f (i + 1)) (m (i + 1))) ∨ DS K tb ss' (m i) (.ct (f (i + 1)) (m (i + 1)))))
    (last : (j = n ∧ out = .nx (f n) (m n)) ∨ (j < n ∧ ∃ ss' ws, DG K g (f j) (it j) ss' ws ∧ ((∃ r m', DS K tb ss' (m j) (.rt r m') ∧ out = .rt r m') ∨ (∃ s' m', DS K tb ss' (m j) (.bk s' m') ∧ out = .nx s' m')))) :
    DS K (tFor wi g tb) ss mem out := fun B H al σ Dn S k =>
  hi B H al σ _ S fun B1 H1 al1 J P1 S1 wk => by
    refine ⟨fun i k σ' H' => k = n - i ∧ i ≤ j ∧ ∃ B' al', Stp B1 H1 al1 B' H' al' ∧ Sit K B' H' al' σ' (f i) (m i), ⟨n, by simp, Nat.zero_le _, B1, al1, Stp.refl _ _ _, by rw [f0, m0]; exact S1⟩, ?_⟩
    rintro i q σ' H' ⟨rfl, hij, B', al', P', S'⟩
    obtain ⟨w1, w2⟩ := wk B' H' al' σ' _ _ P'.same S'
    by_cases hlt : i < j
    · obtain ⟨hg, hy⟩ := w1 i (by omega)
      obtain ⟨ss', ws, dg, ds⟩ := step i hlt
      refine .inr ⟨hg, fun σ2 H2 => ∃ B2 al2, Stp B1 H1 al1 B2 H2 al2 ∧ Sit K B2 H2 al2 σ2 (f (i + 1)) (m (i + 1)), fun σ2 H2 w => ⟨n - (i + 1), by omega, rfl, hlt, w⟩, fun x H2 y => ?_⟩
      obtain ⟨B2, P2, S2, r2⟩ := hy x H2 y
      refine dg B2 H2 al' σ' _ x _ S2 r2 fun σ3 S3 _ => ?_
      rcases ds with ds | ds
      · exact ds B2 H2 al' σ3 _ S3 fun B4 H4 al4 P4 σ4 S4 => ⟨B4, al4, (P'.trans P2).trans P4, S4⟩
      · exact ds B2 H2 al' σ3 _ S3 fun B4 H4 al4 P4 σ4 S4 => ⟨B4, al4, (P'.trans P2).trans P4, S4⟩
    · have ei : i = j := by omega
      subst ei
      rcases last with ⟨e1, e2⟩ | ⟨hn, ss', ws, dg, ds⟩
      · subst e1 e2
        exact .inl ⟨w2 _ (Nat.le_refl _), k _ _ _ (P1.trans P') σ' S'⟩
      · obtain ⟨hg, hy⟩ := w1 i hn
        refine .inr ⟨hg, fun _ _ => False, fun _ _ z => z.elim, fun x H2 y => ?_⟩
        obtain ⟨B2, P2, S2, r2⟩ := hy x H2 y
        refine dg B2 H2 al' σ' _ x _ S2 r2 fun σ3 S3 _ => ?_
        rcases ds with ⟨r, m', ds, e⟩ | ⟨s', m', ds, e⟩
        · subst e
          exact ds B2 H2 al' σ3 _ S3 fun B4 H4 al4 P4 => k _ _ _ ((P1.trans (P'.trans P2)).trans P4)
        · subst e
          exact ds B2 H2 al' σ3 _ S3 fun B4 H4 al4 P4 => k _ _ _ ((P1.trans (P'.trans P2)).trans P4)
/-- a for that runs through -/
theorem ds_for_all {wi : TI} {g : TG} {tb : TS} {n : Nat} {it : Nat → D} (hi : DI K wi ss mem n it m1) (f : Nat → Sl) (m : Nat → List Mc) (f0 : f 0 = ss) (m0 : m 0 = m1)
    (step : ∀ i, i < n → ∃ ss' ws, DG K g (f i) (it i) ss' ws ∧ DS K tb ss' (m i) (.nx (f (i + 1)) (m (i + 1)))) : DS K (tFor wi g tb) ss mem (.nx (f n) (m n)) :=
  ds_for hi f m f0 m0 n (Nat.le_refl _) (fun i h => by
    obtain ⟨ss', ws, a, b⟩ := step i h
    exact ⟨ss', ws, a, .inl b⟩) (.inl ⟨rfl, rfl⟩)
end
end DL
end
section
set_option Elab.async false
set_option linter.all false
set_option maxRecDepth 100000
namespace DL
open PySem PySem.Spec PyProof.Rows L2
section
variable {K : PySem.W.Frag} {ss ss1 ss2 : Sl} {mem m1 m2 m3 m4 : List Mc} {ta tb tc te : TE} {i j : Int} {d e : D} {r r' : Vl} {t u : TS} {out : Out}
/-! ### comprehensions -/
def wipeS (ss : Sl) : List Nat → Sl
  | [] => ss
  | v :: vs => (wipeS ss vs).set v none
theorem Sit.wipe {B H : Hp} {al : List Addr} {σ : L2.St} (S : Sit K B H al σ ss mem) : ∀ vs : List Nat, Sit K B H al (L2.wipe σ vs) (wipeS ss vs) mem
  | [] => S
  | v :: vs => by
    have S1 := Sit.wipe S vs
    refine ⟨S1.sub, ?_, fun i r e => ?_, S1.mlen, S1.mem, S1.nd, S1.there⟩
    · show (List.set _ _ _).length = (List.set _ _ _).length
      rw [List.length_set, List.length_set]
      exact S1.len
    · have e : ((wipeS ss vs).set v none)[i]? = some (some r) := e
      show ∃ x, ((L2.wipe σ vs).set v none)[i]? = some (some x) ∧ _
      by_cases h : v = i
      · subst h
        by_cases hl : v < (wipeS ss vs).length
        · rw [List.getElem?_set_self hl] at e
          cases e
        · rw [List.getElem?_eq_none (by rw [List.length_set]; omega)] at e
          cases e
      · rw [List.getElem?_set_ne h] at e ⊢
        exact S1.slot i r e
/-- a list that stands beside the situation -/
structure Side (B H : Hp) (al : List Addr) (p : Addr) (xs : List V) : Prop where
  at_ : H p = some (.lst xs)
  nb : B p = none
  nal : p ∉ al
theorem Side.step {B H B' H' : Hp} {al al' : List Addr} {p : Addr} {xs : List V} (s : Side B H al p xs) (P : Stp B H al B' H' al') : Side B' H' al' p xs := by
  have hn : H p ≠ none := by rw [s.at_]; exact fun z => nomatch z
  refine ⟨P.frame _ _ s.at_ s.nal, ?_, fun z => ?_⟩
  · cases q : B' p with
    | none => rfl
    | some o =>
      rcases P.fresh p (by rw [q]; exact fun z => nomatch z) with z | z | z | ⟨ys, z⟩
      · exact absurd s.nb z
      · exact absurd z hn
      · exact absurd z s.nal
      · rw [s.at_] at z
        cases z
  · obtain ⟨ex, q, hx⟩ := P.ext
    rw [q] at z
    rcases List.mem_append.mp z with z | z
    · exact s.nal z
    · exact hn (hx p z)
theorem Sit.poke {B H : Hp} {al : List Addr} {σ : L2.St} {p : Addr} {xs : List V} {o : HO} (S : Sit K B H al σ ss mem) (s : Side B H al p xs) : Sit K B (upd H p o) al σ ss mem := by
  have na : ∀ a ∈ al, a ≠ p := fun a h z => s.nal (z ▸ h)
  refine ⟨fun b u e => ?_, S.len, S.slot, S.mlen, fun n a m h1 h2 => ?_, S.nd, fun a h => ?_⟩
  · rw [upd_ne (ne_of_none e s.nb)]
    exact S.sub b u e
  · have q := S.mem n a m h1 h2
    have ha := na a (List.mem_of_getElem? h1)
    cases m with
    | gone => trivial
    | lst ds =>
      obtain ⟨b0, xs, h3, h4⟩ := q
      exact ⟨b0, xs, by rw [upd_ne ha]; exact h3, h4⟩
    | obj C fs =>
      obtain ⟨b0, dx, fv, h3, h4⟩ := q
      exact ⟨b0, dx, fv, by rw [upd_ne ha]; exact h3, h4⟩
    | dic ds =>
      obtain ⟨b0, kv, h3, h4⟩ := q
      exact ⟨b0, kv, by rw [upd_ne ha]; exact h3, h4⟩
    | gen φ =>
      obtain ⟨b0, kv, h3, h4⟩ := q
      exact ⟨b0, kv, by rw [upd_ne ha]; exact h3, h4⟩
  · rw [upd_ne (na a h)]
    exact S.there a h
theorem Stp.poke {B H B' H' : Hp} {al al' : List Addr} {p : Addr} {o : HO} (P : Stp B H al B' H' al') (np : H p = none) : Stp B H al B' (upd H' p o) al' := by
  have hn : ∀ b, H b ≠ none → b ≠ p := fun b h e => h (e ▸ np)
  refine ⟨P.same, fun b u e z => ?_, P.fresh, fun b h => ?_, P.ext⟩
  · rw [upd_ne (ne_of_none e np)]
    exact P.frame b u e z
  · rw [upd_ne (hn b h)]
    exact P.stay b h
/-- the side list becomes data -/
theorem Sit.side {B0 H0 B H : Hp} {al0 al : List Addr} {σ : L2.St} {p : Addr} {xs : List V} {ds : List D} (S : Sit K B H al σ ss mem) (P : Stp B0 H0 al0 B H al) (s : Side B H al p xs) (np : H0 p = none) (r : RepAll K B xs ds) :
    Stp B0 H0 al0 (upd B p (.lst xs)) H al ∧ Sit K (upd B p (.lst xs)) H al σ ss mem ∧ Rep K (upd B p (.lst xs)) (.ref p) (.lst ds) := by
  have sB : Same B (upd B p (.lst xs)) := fun b u e => by rw [upd_ne (ne_of_none e s.nb)]; exact e
  have na : ∀ a ∈ al, a ≠ p := fun a h z => s.nal (z ▸ h)
  have P1 : Stp B H al (upd B p (.lst xs)) H al → True := fun _ => trivial
  refine ⟨⟨P.same.trans sB, P.frame, fun b h => ?_, P.stay, P.ext⟩, ⟨fun b u e => ?_, S.len, fun i r e => ?_, S.mlen, fun n a m h1 h2 => ?_, S.nd, S.there⟩, .lst (SqL.of upd_same) (RepAll.mono sB ds r)⟩
  · by_cases e : b = p
    · exact .inr (.inl (e ▸ np))
    · rw [upd_ne e] at h
      exact P.fresh b h
  · by_cases q : b = p
    · subst q
      rw [upd_same] at e
      exact s.at_.trans e
    · rw [upd_ne q] at e
      exact S.sub b u e
  · obtain ⟨v, h1, h2⟩ := S.slot i r e
    refine ⟨v, h1, ?_⟩
    cases r with
    | dat d => exact Rep.mono sB d h2
    | own n => exact h2
    | tl ds =>
      obtain ⟨x, xs, h3, h4, h5⟩ := h2
      exact ⟨x, xs, h3, sB _ _ h4, RepAll.mono sB ds h5⟩
    | lk ds =>
      obtain ⟨x, o, xs, h3, h4, h5⟩ := h2
      exact ⟨x, o, xs, h3, sB _ _ h4, RepKv.mono sB ds h5⟩
  · have q := S.mem n a m h1 h2
    have ha := na a (List.mem_of_getElem? h1)
    cases m with
    | gone => trivial
    | lst ds =>
      obtain ⟨b0, xs, h3, h4⟩ := q
      exact ⟨by rw [upd_ne ha]; exact b0, xs, h3, RepAll.mono sB ds h4⟩
    | obj C fs =>
      obtain ⟨b0, dx, fv, h3, h4⟩ := q
      exact ⟨by rw [upd_ne ha]; exact b0, dx, fv, h3, RepFs.mono sB fs h4⟩
    | dic ds =>
      obtain ⟨b0, kv, h3, h4⟩ := q
      exact ⟨by rw [upd_ne ha]; exact b0, kv, h3, RepKv.mono sB ds h4⟩
    | gen φ =>
      obtain ⟨b0, kv, h3, h5, h4⟩ := q
      exact ⟨by rw [upd_ne ha]; exact b0, kv, h3, h5, fun B2 e => h4 B2 ((Alike.of sB).trans e)⟩
/-- the side list becomes an own one -/
theorem Sit.sideOwn {B0 H0 B H : Hp} {al0 al : List Addr} {σ : L2.St} {p : Addr} {xs : List V} {ds : List D} (S : Sit K B H al σ ss mem) (P : Stp B0 H0 al0 B H al) (s : Side B H al p xs) (np : H0 p = none) (r : RepAll K B xs ds) :
    Stp B0 H0 al0 B H (al ++ [p]) ∧ Sit K B H (al ++ [p]) σ ss (mem ++ [.lst ds]) := by
  obtain ⟨ex, q, hx⟩ := P.ext
  refine ⟨⟨P.same, P.frame, P.fresh, P.stay, ex ++ [p], by rw [q, List.append_assoc], fun a h => ?_⟩, ⟨S.sub, S.len, fun i r e => ?_, by rw [List.length_append, List.length_append, S.mlen]; rfl, fun n a m h1 h2 => ?_, ?_, fun a h => ?_⟩⟩
  · rcases List.mem_append.mp h with z | z
    · exact hx a z
    · rw [List.mem_singleton] at z
      exact z ▸ np
  · obtain ⟨v, h1, h2⟩ := S.slot i r e
    refine ⟨v, h1, ?_⟩
    cases r with
    | dat d => exact h2
    | own n =>
      obtain ⟨x, h3, h4⟩ := h2
      exact ⟨x, by rw [List.getElem?_append_left (List.getElem?_eq_some_iff.mp h3).1]; exact h3, h4⟩
    | tl ds => exact h2
    | lk ds => exact h2
  · by_cases hlt : n < al.length
    · rw [List.getElem?_append_left hlt] at h1
      rw [List.getElem?_append_left (S.mlen ▸ hlt)] at h2
      exact S.mem n a m h1 h2
    · have l1 : n < (al ++ [p]).length := (List.getElem?_eq_some_iff.mp h1).1
      rw [List.length_append, List.length_singleton] at l1
      have en : n = al.length := by omega
      subst en
      rw [List.getElem?_append_right (Nat.le_refl _), Nat.sub_self] at h1
      rw [List.getElem?_append_right (by rw [S.mlen]; exact Nat.le_refl _), S.mlen, Nat.sub_self] at h2
      have e1 : p = a := Option.some.inj h1
      have e2 : Mc.lst ds = m := Option.some.inj h2
      subst e1 e2
      exact ⟨s.nb, xs, s.at_, r⟩
  · rw [List.nodup_append]
    refine ⟨S.nd, List.Pairwise.cons (fun _ z => by cases z) .nil, fun a h b h2 e => ?_⟩
    rw [List.mem_singleton] at h2
    exact s.nal (h2 ▸ e ▸ h)
  · rcases List.mem_append.mp h with h | h
    · exact S.there a h
    · rw [List.mem_singleton] at h
      rw [h, s.at_]
      exact fun z => nomatch z
/-- one turn of a comprehension: from acc and these own objects to acc' -/
def LcTurn (K : PySem.W.Frag) (g : TG) (tt : TT) (te : TE) (vs : List Nat) (s0 : Sl) (d : D) (acc : List D) (m : List Mc) (acc' : List D) (m' : List Mc) : Prop :=
  ∃ s1 ws, DG K g (wipeS s0 vs) d s1 ws ∧ (∀ w ∈ ws, w ∈ vs) ∧ ((∃ mt x, DB K tt s1 m true mt ∧ DT K te s1 mt (.dat x) m' ∧ acc' = acc ++ [x]) ∨ (DB K tt s1 m false m' ∧ acc' = acc))
theorem lc_all {wi : TI} {g : TG} {tt : TT} {vs : List Nat} {n : Nat} {it : Nat → D} (hi : DI K wi ss mem n it m1) (acc : Nat → List D) (m : Nat → List Mc) (a0 : acc 0 = []) (m0 : m 0 = m1) (hlen : ∀ i, i < n → (acc i).length < 16777216)
    (step : ∀ i, i < n → LcTurn K g tt te vs ss (it i) (acc i) (m i) (acc (i + 1)) (m (i + 1))) :
    ∀ (B H : Hp) (al : List Addr) (σ : L2.St) (Q : VK), Sit K B H al σ ss mem → (∀ (p : Addr) B' H' al' xs, (∃ H1, ∃ B1 al1, Stp B H al B1 H1 al1 ∧ H1 p = none ∧ Stp B1 H1 al1 B' H' al') → Sit K B' H' al' σ ss (m n) → Side B' H' al' p xs → RepAll K B' xs (acc n) → Q (.ref p) H') → tLc wi g tt te vs σ H Q := fun B H al σ Q S k =>
  hi B H al σ _ S fun B1 H1 al1 J P1 S1 wk p np => by
    have nb : B1 p = none := S1.sub.free np
    have nal : p ∉ al1 := fun h => S1.there p h np
    have S1' : Sit K B1 (upd H1 p (.lst [])) al1 σ ss m1 := by
      have sH : Same H1 (upd H1 p (.lst [])) := fun b u e => by rw [upd_ne (ne_of_none e np)]; exact e
      exact S1.back (mem := m1) ((Stp.refl B1 H1 al1).poke np) ⟨fun b u e => sH b u (S1.sub b u e), S1.len, S1.slot, S1.mlen, fun n a m h1 h2 => by
        have q := S1.mem n a m h1 h2
        cases m with
        | gone => trivial
        | lst ds =>
          obtain ⟨b0, xs, h3, h4⟩ := q
          exact ⟨b0, xs, sH _ _ h3, h4⟩
        | obj C fs =>
          obtain ⟨b0, dx, fv, h3, h4⟩ := q
          exact ⟨b0, dx, fv, sH _ _ h3, h4⟩
        | dic ds =>
          obtain ⟨b0, kv, h3, h4⟩ := q
          exact ⟨b0, kv, sH _ _ h3, h4⟩
        | gen φ =>
          obtain ⟨b0, kv, h3, h4⟩ := q
          exact ⟨b0, kv, sH _ _ h3, h4⟩, S1.nd, fun a h => by
            obtain ⟨o, q⟩ := Option.ne_none_iff_exists'.mp (S1.there a h)
            rw [sH a o q]
            exact fun z => nomatch z⟩
    refine ⟨fun i k H' => k = n - i ∧ i ≤ n ∧ ∃ B' al' xs, Stp B1 H1 al1 B' H' al' ∧ Sit K B' H' al' σ ss (m i) ∧ Side B' H' al' p xs ∧ RepAll K B' xs (acc i), ⟨n, by simp, Nat.zero_le _, B1, al1, [], (Stp.refl _ _ _).poke np, by rw [m0]; exact S1', ⟨upd_same, nb, nal⟩, by rw [a0]; exact .nil⟩, ?_⟩
    rintro i q H' ⟨rfl, hin, B', al', xs, P', S', sd, ra⟩
    obtain ⟨w1, w2⟩ := wk B' H' al' (wipe σ vs) _ _ P'.same (S'.wipe vs)
    by_cases hlt : i < n
    · obtain ⟨hg, hy⟩ := w1 i hlt
      obtain ⟨s1, ws, dg, hws, hcase⟩ := step i hlt
      refine .inr ⟨hg, fun H2 => ∃ B' al' xs, Stp B1 H1 al1 B' H2 al' ∧ Sit K B' H2 al' σ ss (m (i + 1)) ∧ Side B' H2 al' p xs ∧ RepAll K B' xs (acc (i + 1)), fun H2 w => ⟨n - (i + 1), by omega, rfl, hlt, w⟩, fun x H2 y => ?_⟩
      obtain ⟨B2, P2, S2, r2⟩ := hy x H2 y
      refine dg B2 H2 al' _ _ x _ S2 r2 fun σ3 S3 hwp => ⟨?_, ?_⟩
      · rw [hwp vs hws]
        apply List.ext_getElem?
        intro j
        by_cases hj : j ∈ vs
        · rw [wipe_in hj, wipe_in hj, wipe_length]
        · rw [wipe_out hj]
      · rcases hcase with ⟨mt, y, db, dt, ea⟩ | ⟨db, ea⟩
        · refine db B2 H2 al' σ3 _ S3 fun B4 H4 al4 P4 S4 => iteT (dt B4 H4 al4 σ3 _ S4 fun B5 H5 al5 v P5 S5 r5 => ?_)
          have PP := (P2.trans P4).trans P5
          have sd5 := sd.step PP
          refine ⟨xs, sd5.at_, by rw [ra.len, sizeLine_eq]; exact hlen i hlt, B5, al5, xs ++ [v], (P'.trans PP).poke np, ?_, ⟨upd_same, sd5.nb, sd5.nal⟩, ?_⟩
          · exact (S'.back PP S5).poke sd5
          · rw [ea]
            exact (RepAll.mono PP.same _ ra).append (.cons r5 .nil)
        · refine db B2 H2 al' σ3 _ S3 fun B4 H4 al4 P4 S4 => iteF ?_
          have PP := P2.trans P4
          exact ⟨B4, al4, xs, P'.trans PP, S'.back PP S4, sd.step PP, by rw [ea]; exact RepAll.mono PP.same _ ra⟩
    · have ei : i = n := by omega
      subst ei
      exact .inl ⟨w2 _ (Nat.le_refl _), k p B' H' al' xs ⟨H1, B1, al1, P1, np, P'⟩ S' sd ra⟩
/-- a list comprehension, its list as data -/
theorem dt_lc {wi : TI} {g : TG} {tt : TT} {vs : List Nat} {n : Nat} {it : Nat → D} (hi : DI K wi ss mem n it m1) (acc : Nat → List D) (m : Nat → List Mc) (a0 : acc 0 = []) (m0 : m 0 = m1) (hlen : ∀ i, i < n → (acc i).length < 16777216)
    (step : ∀ i, i < n → LcTurn K g tt te vs ss (it i) (acc i) (m i) (acc (i + 1)) (m (i + 1))) : DT K (tLc wi g tt te vs) ss mem (.dat (.lst (acc n))) (m n) := fun B H al σ Q S k =>
  lc_all hi acc m a0 m0 hlen step B H al σ Q S fun p B' H' al' xs ⟨H1, B1, al1, P1, np, P'⟩ S' sd ra => by
    obtain ⟨P2, S2, r2⟩ := S'.side P' sd np ra
    exact k _ _ _ _ (P1.trans P2) S2 r2
/-- .. as a tracked list -/
theorem dt_lcT {wi : TI} {g : TG} {tt : TT} {vs : List Nat} {n : Nat} {it : Nat → D} (hi : DI K wi ss mem n it m1) (acc : Nat → List D) (m : Nat → List Mc) (a0 : acc 0 = []) (m0 : m 0 = m1) (hlen : ∀ i, i < n → (acc i).length < 16777216)
    (step : ∀ i, i < n → LcTurn K g tt te vs ss (it i) (acc i) (m i) (acc (i + 1)) (m (i + 1))) : DT K (tLc wi g tt te vs) ss mem (.tl (acc n)) (m n) := fun B H al σ Q S k =>
  lc_all hi acc m a0 m0 hlen step B H al σ Q S fun p B' H' al' xs ⟨H1, B1, al1, P1, np, P'⟩ S' sd ra => by
    obtain ⟨P2, S2, r2⟩ := S'.side P' sd np ra
    have sB : Same B' (upd B' p (.lst xs)) := fun b u e => by rw [upd_ne (ne_of_none e sd.nb)]; exact e
    exact k _ _ _ _ (P1.trans P2) S2 ⟨p, xs, rfl, upd_same, RepAll.mono sB _ ra⟩
/-- .. as an own list -/
theorem dt_lcO {wi : TI} {g : TG} {tt : TT} {vs : List Nat} {n : Nat} {it : Nat → D} (hi : DI K wi ss mem n it m1) (acc : Nat → List D) (m : Nat → List Mc) (a0 : acc 0 = []) (m0 : m 0 = m1) (hlen : ∀ i, i < n → (acc i).length < 16777216)
    (step : ∀ i, i < n → LcTurn K g tt te vs ss (it i) (acc i) (m i) (acc (i + 1)) (m (i + 1))) : DT K (tLc wi g tt te vs) ss mem (.own (m n).length) (m n ++ [.lst (acc n)]) := fun B H al σ Q S k =>
  lc_all hi acc m a0 m0 hlen step B H al σ Q S fun p B' H' al' xs ⟨H1, B1, al1, P1, np, P'⟩ S' sd ra => by
    obtain ⟨P2, S2⟩ := S'.sideOwn P' sd np ra
    exact k _ _ _ _ (P1.trans P2) S2 (own_last S' p)
theorem db_yes : DB K tYes ss mem true mem := fun B H al σ Q S k => k _ _ _ (Stp.refl _ _ _) S
/-- [f x for x in data], nothing else touched, no test: the element by place -/
theorem dt_lcMap {wi : TI} {g : TG} {vs : List Nat} {n : Nat} {it : Nat → D} (hi : DI K wi ss mem n it m1) (f : Nat → D) (hn : n ≤ 16777216)
    (step : ∀ i, i < n → ∃ s1 ws, DG K g (wipeS ss vs) (it i) s1 ws ∧ (∀ w ∈ ws, w ∈ vs) ∧ DT K te s1 m1 (.dat (f i)) m1) : DT K (tLc wi g tYes te vs) ss mem (.dat (.lst ((List.range n).map f))) m1 := by
  have h := dt_lc (te := te) (tt := tYes) (vs := vs) (g := g) hi (fun i => (List.range i).map f) (fun _ => m1) rfl rfl (fun i h => by rw [List.length_map, List.length_range]; omega) fun i h => by
    obtain ⟨s1, ws, a, b, c⟩ := step i h
    exact ⟨s1, ws, a, b, .inl ⟨m1, f i, db_yes, c, by rw [List.range_succ, List.map_append]; rfl⟩⟩
  exact h
theorem dt_lcMapT {wi : TI} {g : TG} {vs : List Nat} {n : Nat} {it : Nat → D} (hi : DI K wi ss mem n it m1) (f : Nat → D) (hn : n ≤ 16777216)
    (step : ∀ i, i < n → ∃ s1 ws, DG K g (wipeS ss vs) (it i) s1 ws ∧ (∀ w ∈ ws, w ∈ vs) ∧ DT K te s1 m1 (.dat (f i)) m1) : DT K (tLc wi g tYes te vs) ss mem (.tl ((List.range n).map f)) m1 := by
  have h := dt_lcT (te := te) (tt := tYes) (vs := vs) (g := g) hi (fun i => (List.range i).map f) (fun _ => m1) rfl rfl (fun i h => by rw [List.length_map, List.length_range]; omega) fun i h => by
    obtain ⟨s1, ws, a, b, c⟩ := step i h
    exact ⟨s1, ws, a, b, .inl ⟨m1, f i, db_yes, c, by rw [List.range_succ, List.map_append]; rfl⟩⟩
  exact h
/-- with a test -/
theorem dt_lcIf {wi : TI} {g : TG} {tt : TT} {vs : List Nat} {n : Nat} {it : Nat → D} (hi : DI K wi ss mem n it m1) (f : Nat → D) (p : Nat → Bool) (hn : n ≤ 16777216)
    (step : ∀ i, i < n → ∃ s1 ws, DG K g (wipeS ss vs) (it i) s1 ws ∧ (∀ w ∈ ws, w ∈ vs) ∧ DB K tt s1 m1 (p i) m1 ∧ (p i = true → DT K te s1 m1 (.dat (f i)) m1)) :
    DT K (tLc wi g tt te vs) ss mem (.dat (.lst (((List.range n).filter p).map f))) m1 := by
  have h := dt_lc (te := te) (tt := tt) (vs := vs) (g := g) hi (fun i => ((List.range i).filter p).map f) (fun _ => m1) rfl rfl (fun i h => by
      have := List.length_filter_le p (List.range i)
      rw [List.length_range] at this
      rw [List.length_map]
      omega) fun i h => by
    obtain ⟨s1, ws, a, b, c, dd⟩ := step i h
    refine ⟨s1, ws, a, b, ?_⟩
    cases q : p i with
    | true =>
      rw [q] at c
      exact .inl ⟨m1, f i, c, dd q, by rw [List.range_succ, List.filter_append, List.map_append]; simp [q]⟩
    | false =>
      rw [q] at c
      exact .inr ⟨c, by rw [List.range_succ, List.filter_append, List.map_append]; simp [q]⟩
  exact h
theorem yes_ok {Q : Bool → Hp → Prop} {σ : L2.St} {H : Hp} (h : Q true H) : tYes σ H Q := h
/-- [e for a in .. for b in ..], no tests, nothing else touched -/
theorem dt_lc2 {wi wi1 : TI} {g g1 : TG} {vs vs1 : List Nat} {n n1 : Nat} {it : Nat → D} {it1 : Nat → Nat → D} (hi : DI K wi ss mem n it m1) (f : Nat → Nat → D) (hn : n * n1 ≤ 16777216) (hv : ∀ v ∈ vs1, v ∈ vs)
    (step : ∀ i, i < n → ∃ s1 ws, DG K g (wipeS ss vs) (it i) s1 ws ∧ (∀ w ∈ ws, w ∈ vs) ∧ DI K wi1 s1 m1 n1 (it1 i) m1 ∧
      ∀ j, j < n1 → ∃ s2 ws1, DG K g1 (wipeS s1 vs1) (it1 i j) s2 ws1 ∧ (∀ w ∈ ws1, w ∈ vs1) ∧ DT K te s2 m1 (.dat (f i j)) m1) :
    DT K (tLc2 wi g tYes wi1 g1 tYes te vs vs1) ss mem (.dat (.lst ((List.range n).flatMap fun i => (List.range n1).map (f i)))) m1 := fun B H al σ Q S k =>
  hi B H al σ _ S fun B1 H1 al1 J P1 S1 wk p np => by
    have nb : B1 p = none := S1.sub.free np
    have nal : p ∉ al1 := fun h => S1.there p h np
    have S1' : Sit K B1 (upd H1 p (.lst [])) al1 σ ss m1 := by
      have sH : Same H1 (upd H1 p (.lst [])) := fun b u e => by rw [upd_ne (ne_of_none e np)]; exact e
      exact ⟨fun b u e => sH b u (S1.sub b u e), S1.len, S1.slot, S1.mlen, fun n a m h1 h2 => by
        have q := S1.mem n a m h1 h2
        cases m with
        | gone => trivial
        | lst ds =>
          obtain ⟨b0, xs, h3, h4⟩ := q
          exact ⟨b0, xs, sH _ _ h3, h4⟩
        | obj C fs =>
          obtain ⟨b0, dx, fv, h3, h4⟩ := q
          exact ⟨b0, dx, fv, sH _ _ h3, h4⟩
        | dic ds =>
          obtain ⟨b0, kv, h3, h4⟩ := q
          exact ⟨b0, kv, sH _ _ h3, h4⟩
        | gen φ =>
          obtain ⟨b0, kv, h3, h4⟩ := q
          exact ⟨b0, kv, sH _ _ h3, h4⟩, S1.nd, fun a h => by
            obtain ⟨o, q⟩ := Option.ne_none_iff_exists'.mp (S1.there a h)
            rw [sH a o q]
            exact fun z => nomatch z⟩
    have wipe2 : ∀ (τ τ' : L2.St) (us : List Nat), wipe τ' us = wipe (wipe τ us) us → wipe τ' us = wipe τ us := fun τ τ' us h => by
      rw [h]
      apply List.ext_getElem?
      intro j
      by_cases hj : j ∈ us
      · rw [wipe_in hj, wipe_in hj, wipe_length]
      · rw [wipe_out hj]
    have lenAcc : ∀ i, ((List.range i).flatMap fun i => (List.range n1).map (f i)).length = i * n1 := fun i => by
      induction i with
      | zero => simp
      | succ i ih =>
        rw [List.range_succ, List.flatMap_append, List.length_append, ih, Nat.succ_mul]
        simp
    refine ⟨fun i k H' => k = n - i ∧ i ≤ n ∧ ∃ B' al' xs, Stp B1 H1 al1 B' H' al' ∧ Sit K B' H' al' σ ss m1 ∧ Side B' H' al' p xs ∧ RepAll K B' xs ((List.range i).flatMap fun i => (List.range n1).map (f i)), ⟨n, by simp, Nat.zero_le _, B1, al1, [], (Stp.refl _ _ _).poke np, S1', ⟨upd_same, nb, nal⟩, .nil⟩, ?_⟩
    rintro i q H' ⟨rfl, hin, B', al', xs, P', S', sd, ra⟩
    obtain ⟨w1, w2⟩ := wk B' H' al' (wipe σ vs) _ _ P'.same (S'.wipe vs)
    by_cases hlt : i < n
    · obtain ⟨hg, hy⟩ := w1 i hlt
      obtain ⟨s1, ws, dg, hws, di1, step1⟩ := step i hlt
      refine .inr ⟨hg, fun H2 => ∃ B' al' xs, Stp B1 H1 al1 B' H2 al' ∧ Sit K B' H2 al' σ ss m1 ∧ Side B' H2 al' p xs ∧ RepAll K B' xs ((List.range (i + 1)).flatMap fun i => (List.range n1).map (f i)), fun H2 w => ⟨n - (i + 1), by omega, rfl, hlt, w⟩, fun x H2 y => ?_⟩
      obtain ⟨B2, P2, S2, r2⟩ := hy x H2 y
      refine dg B2 H2 al' _ _ x _ S2 r2 fun σ3 S3 hwp => ⟨wipe2 σ σ3 vs (hwp vs hws), ?_⟩
      refine yes_ok ?_
      rw [if_pos rfl]
      refine di1 B2 H2 al' σ3 _ S3 fun B3 H3 al3 J1 P3 S3' wk1 => ?_
      refine ⟨fun j k H' => k = n1 - j ∧ j ≤ n1 ∧ ∃ B' al' xs, Stp B1 H1 al1 B' H' al' ∧ Same B3 B' ∧ Sit K B' H' al' σ ss m1 ∧ Sit K B' H' al' σ3 s1 m1 ∧ Side B' H' al' p xs ∧
          RepAll K B' xs (((List.range i).flatMap fun i => (List.range n1).map (f i)) ++ (List.range j).map (f i)),
        ⟨n1, by simp, Nat.zero_le _, B3, al3, xs, P'.trans (P2.trans P3), Same.refl _, S'.back (P2.trans P3) S3', S3', sd.step (P2.trans P3), by rw [List.range_zero, List.map_nil, List.append_nil]; exact RepAll.mono (P2.trans P3).same _ ra⟩, ?_⟩
      rintro j q H4 ⟨rfl, hjn, B4, al4, ys, PA, PB, SA, SB, sd4, ra4⟩
      obtain ⟨u1, u2⟩ := wk1 B4 H4 al4 (wipe σ3 vs1) _ _ PB (SB.wipe vs1)
      by_cases hjl : j < n1
      · obtain ⟨hg1, hy1⟩ := u1 j hjl
        obtain ⟨s2, ws1, dg1, hws1, dt⟩ := step1 j hjl
        refine .inr ⟨hg1, fun H5 => ∃ B' al' xs, Stp B1 H1 al1 B' H5 al' ∧ Same B3 B' ∧ Sit K B' H5 al' σ ss m1 ∧ Sit K B' H5 al' σ3 s1 m1 ∧ Side B' H5 al' p xs ∧
          RepAll K B' xs (((List.range i).flatMap fun i => (List.range n1).map (f i)) ++ (List.range (j + 1)).map (f i)), fun H5 w => ⟨n1 - (j + 1), by omega, rfl, hjl, w⟩, fun x5 H5 y5 => ?_⟩
        obtain ⟨B5, P5, S5, r5⟩ := hy1 x5 H5 y5
        refine dg1 B5 H5 al4 _ _ x5 _ S5 r5 fun σ6 S6 hwp1 => And.intro (wipe2 σ3 σ6 vs1 (hwp1 vs1 hws1)) ?_
        refine yes_ok ?_
        rw [if_pos rfl]
        refine dt B5 H5 al4 σ6 _ S6 fun B6 H6 al6 v P6 S7 r6 => ?_
        have PP := P5.trans P6
        have sd6 := sd4.step PP
        have hl : (((List.range i).flatMap fun i => (List.range n1).map (f i)) ++ (List.range j).map (f i)).length < 16777216 := by
          rw [List.length_append, lenAcc, List.length_map, List.length_range]
          have h1 : (i + 1) * n1 ≤ n * n1 := Nat.mul_le_mul_right _ hlt
          rw [Nat.succ_mul] at h1
          omega
        refine ⟨ys, sd6.at_, by rw [ra4.len, sizeLine_eq]; exact hl, B6, al6, ys ++ [v], (PA.trans PP).poke np, PB.trans PP.same, (SA.back PP S7).poke sd6, (SB.back PP S7).poke sd6, ⟨upd_same, sd6.nb, sd6.nal⟩, ?_⟩
        · rw [List.range_succ, List.map_append, ← List.append_assoc]
          exact (RepAll.mono PP.same _ ra4).append (.cons r6 .nil)
      · have ej : j = n1 := by omega
        subst ej
        refine .inl ⟨u2 _ (Nat.le_refl _), B4, al4, ys, PA, SA, sd4, ?_⟩
        rw [List.range_succ, List.flatMap_append]
        simpa using ra4
    · have ei : i = n := by omega
      subst ei
      obtain ⟨P2, S2, r2⟩ := S'.side P' sd np ra
      exact .inl ⟨w2 _ (Nat.le_refl _), k _ _ _ _ (P1.trans P2) S2 r2⟩
end
end DL
end
section
set_option Elab.async false
set_option linter.all false
set_option maxRecDepth 100000
namespace DL
open PySem PySem.Spec PyProof.Rows L2
/-! ### promises -/
/-- args, own objects; the answer, own objects behind it -/
abbrev Rel := List Vl → List Mc → D → List Mc → Prop
def spD (K : PySem.W.Frag) (n : Nat) (R : Rel) : Sp := fun vs H Q _ => ∃ B al args mem d mem', R args mem d mem' ∧ args.length = n ∧ mem'.length = mem.length ∧ Sit K B H al (vs.map some) (args.map some) mem ∧
  ∀ B' H' v, Stp B H al B' H' al → Sit K B' H' al (vs.map some) (args.map some) mem' → Rep K B' v d → Q v H'
/-- a def that reads data and gives data -/
def pureR (R : List D → D → Prop) : Rel := fun args mem d mem' => ∃ ds, args = ds.map Vl.dat ∧ mem = [] ∧ mem' = [] ∧ R ds d
/-- a def whose first argument is an own object that it may change -/
def ownR (R : Mc → List D → D → Mc → Prop) : Rel := fun args mem d mem' => ∃ m ds m', args = .own 0 :: ds.map Vl.dat ∧ mem = [m] ∧ mem' = [m'] ∧ R m ds d m'
abbrev spP (K : PySem.W.Frag) (n : Nat) (R : List D → D → Prop) : Sp := spD K n (pureR R)
abbrev spO (K : PySem.W.Frag) (n : Nat) (R : Mc → List D → D → Mc → Prop) : Sp := spD K n (ownR R)
section
variable {K : PySem.W.Frag} {ss ss1 ss2 : Sl} {mem m1 m2 m3 m4 : List Mc} {ta tb tc te : TE} {i j : Int} {d e : D} {r r' : Vl} {t u : TS} {out : Out}
theorem pack_slots {B H : Hp} {vs : List V} {ds : List D} (e : Same B H) (r : RepAll K B vs ds) : Sit K B H [] (vs.map some) ((ds.map Vl.dat).map some) [] := by
  refine ⟨e, by rw [List.length_map, List.length_map, List.length_map, r.len], fun i q h => ?_, rfl, fun n a m h _ => by simp at h, .nil, fun a h => by cases h⟩
  rw [List.getElem?_map, List.getElem?_map] at h
  cases hd : ds[i]? with
  | none => rw [hd] at h; cases h
  | some d =>
    rw [hd] at h
    cases h
    obtain ⟨v, h1, h2⟩ := r.get hd
    exact ⟨v, by rw [List.getElem?_map, h1]; rfl, h2⟩
/-- what a callee that changes none of the own objects leaves -/
theorem Sit.after {B H B' H' : Hp} {al : List Addr} {σ : L2.St} (S : Sit K B H al σ ss mem) (P : Stp B H [] B' H' []) (sub : Same B' H') : Stp B H al B' H' al ∧ Sit K B' H' al σ ss mem := by
  have PP : Stp B H al B' H' al := ⟨P.same, fun b o e _ => P.frame b o e (fun z => by cases z), fun b h => by
    rcases P.fresh b h with z | z | z | z
    · exact .inl z
    · exact .inr (.inl z)
    · exact absurd z List.not_mem_nil
    · exact .inr (.inr (.inr z)), P.stay, [], by rw [List.append_nil], fun _ h => by cases h⟩
  refine ⟨PP, sub, S.len, fun i r e => ?_, S.mlen, fun n a m h1 h2 => ?_, S.nd, fun a h => P.stay a (S.there a h)⟩
  · obtain ⟨v, h1, h2⟩ := S.slot i r e
    exact ⟨v, h1, h2.step PP⟩
  · have q := S.mem n a m h1 h2
    have ha := S.there a (List.mem_of_getElem? h1)
    have hb : (∀ ys, H a ≠ some (.tup ys)) → B a = none → B' a = none := fun ht h0 => by
      cases z : B' a with
      | none => rfl
      | some o =>
        rcases P.fresh a (by rw [z]; exact fun z => nomatch z) with y | y | y | ⟨ys, y⟩
        · exact absurd h0 y
        · exact absurd y ha
        · cases y
        · exact absurd y (ht ys)
    cases m with
    | gone => trivial
    | lst ds =>
      obtain ⟨b0, xs, h3, h4⟩ := q
      exact ⟨hb (fun ys z => by rw [h3] at z; cases z) b0, xs, P.frame _ _ h3 (fun z => by cases z), RepAll.mono P.same ds h4⟩
    | obj C fs =>
      obtain ⟨b0, dx, fv, h3, h4⟩ := q
      exact ⟨hb (fun ys z => by rw [h3] at z; cases z) b0, dx, fv, P.frame _ _ h3 (fun z => by cases z), RepFs.mono P.same fs h4⟩
    | dic ds =>
      obtain ⟨b0, kv, h3, h4⟩ := q
      exact ⟨hb (fun ys z => by rw [h3] at z; cases z) b0, kv, P.frame _ _ h3 (fun z => by cases z), RepKv.mono P.same ds h4⟩
    | gen φ =>
      obtain ⟨b0, kv, h3, h5, h4⟩ := q
      exact ⟨hb (fun ys z => by rw [h3] at z; exact h5 ys (Option.some.inj z)) b0, kv, P.frame _ _ h3 (fun z => by cases z), h5, fun B2 e => h4 B2 ((Alike.of P.same).trans e)⟩
/-- what a callee leaves that changes the n-th own object alone -/
theorem Sit.after1 {B H B' H' : Hp} {al : List Addr} {σ : L2.St} {n : Nat} {a : Addr} {m' : Mc} (S : Sit K B H al σ ss mem) (hn : al[n]? = some a) (P : Stp B H [a] B' H' [a]) (sub : Same B' H') (hm : McOk K B' H' a m') : Stp B H al B' H' al ∧ Sit K B' H' al σ ss (mem.set n m') := by
  have ha : a ∈ al := List.mem_of_getElem? hn
  have PP : Stp B H al B' H' al := ⟨P.same, fun b o e z => P.frame b o e (fun y => z (by rw [List.mem_singleton] at y; exact y ▸ ha)), fun b h => by
    rcases P.fresh b h with z | z | z | z
    · exact .inl z
    · exact .inr (.inl z)
    · rw [List.mem_singleton] at z
      exact .inr (.inr (.inl (z ▸ ha)))
    · exact .inr (.inr (.inr z)), P.stay, [], by rw [List.append_nil], fun _ h => by cases h⟩
  refine ⟨PP, sub, S.len, fun i r e => ?_, by rw [List.length_set]; exact S.mlen, fun n' a' m h1 h2 => ?_, S.nd, fun a h => P.stay a (S.there a h)⟩
  · obtain ⟨v, h1, h2⟩ := S.slot i r e
    exact ⟨v, h1, h2.step PP⟩
  · by_cases e : n' = n
    · subst e
      have ea : a' = a := Option.some.inj (h1.symm.trans hn)
      have hl : n' < mem.length := by
        have := (List.getElem?_eq_some_iff.mp h2).1
        rwa [List.length_set] at this
      rw [List.getElem?_set_self hl] at h2
      have em : m' = m := Option.some.inj h2
      rw [ea, ← em]
      exact hm
    · rw [List.getElem?_set_ne (Ne.symm e)] at h2
      have q := S.mem n' a' m h1 h2
      have na : a' ≠ a := fun z => e (nd_ix S.nd h1 (z ▸ hn))
      have na' : a' ∉ [a] := fun z => na (by rw [List.mem_singleton] at z; exact z)
      have hat := S.there a' (List.mem_of_getElem? h1)
      have hb : (∀ ys, H a' ≠ some (.tup ys)) → B a' = none → B' a' = none := fun ht h0 => by
        cases z : B' a' with
        | none => rfl
        | some o =>
          rcases P.fresh a' (by rw [z]; exact fun z => nomatch z) with y | y | y | ⟨ys, y⟩
          · exact absurd h0 y
          · exact absurd y hat
          · exact absurd y na'
          · exact absurd y (ht ys)
      cases m with
      | gone => trivial
      | lst ds =>
        obtain ⟨b0, xs, h3, h4⟩ := q
        exact ⟨hb (fun ys z => by rw [h3] at z; cases z) b0, xs, P.frame _ _ h3 na', RepAll.mono P.same ds h4⟩
      | obj C fs =>
        obtain ⟨b0, dx, fv, h3, h4⟩ := q
        exact ⟨hb (fun ys z => by rw [h3] at z; cases z) b0, dx, fv, P.frame _ _ h3 na', RepFs.mono P.same fs h4⟩
      | dic ds =>
        obtain ⟨b0, kv, h3, h4⟩ := q
        exact ⟨hb (fun ys z => by rw [h3] at z; cases z) b0, kv, P.frame _ _ h3 na', RepKv.mono P.same ds h4⟩
      | gen φ =>
        obtain ⟨b0, kv, h3, h5, h4⟩ := q
        exact ⟨hb (fun ys z => by rw [h3] at z; exact h5 ys (Option.some.inj z)) b0, kv, P.frame _ _ h3 na', h5, fun B2 e => h4 B2 ((Alike.of P.same).trans e)⟩
/-- f(..) of data -/
theorem dt_call {n : Nat} {R : List D → D → Prop} {E : XK} {t : TA} {ds : List D} (h : DA K t ss mem ds m1) (hR : R ds d) (hn : ds.length = n := by rfl) : DT K (tCall (spP K n R) [] E t) ss mem (.dat d) m1 := fun B H al σ Q S k =>
  h B H al σ _ S fun B1 H1 al1 vs P1 S1 r1 => by
    refine ⟨B1, [], ds.map Vl.dat, [], d, [], ⟨ds, rfl, rfl, rfl, hR⟩, by rw [List.length_map]; exact hn, rfl, ?_, fun B' H' v P S' rv => ?_⟩
    · rw [List.append_nil]
      exact pack_slots S1.sub r1
    · obtain ⟨P2, S2⟩ := S1.after P S'.sub
      exact k _ _ _ _ (P1.trans P2) S2 rv
/-- f(x, ..), x own -/
theorem dt_callO {n p : Nat} {R : Mc → List D → D → Mc → Prop} {E : XK} {t : TA} {ds : List D} {m m' : Mc} (h : DAO K t ss mem p ds m1) (hm : m1[p]? = some m) (hg : m ≠ .gone) (hR : R m ds d m') (hn : ds.length + 1 = n := by rfl) : DT K (tCall (spO K n R) [] E t) ss mem (.dat d) (m1.set p m') := fun B H al σ Q S k =>
  h B H al σ _ S fun B1 H1 al1 v vs P1 S1 r0 r1 => by
    obtain ⟨a, a1, rfl⟩ := r0
    have ma := S1.mem p a m a1 hm
    have ha := S1.there a (List.mem_of_getElem? a1)
    refine ⟨B1, [a], .own 0 :: ds.map Vl.dat, [m], d, [m'], ⟨m, ds, m', rfl, rfl, rfl, hR⟩, by rw [List.length_cons, List.length_map]; exact hn, rfl, ?_, fun B' H' v P S' rv => ?_⟩
    · rw [List.append_nil]
      refine ⟨S1.sub, by rw [List.length_map, List.length_map, List.length_cons, List.length_cons, List.length_map, r1.len], fun i q h => ?_, rfl, fun n' a' m'' h1 h2 => ?_, List.Pairwise.cons (fun _ z => by cases z) .nil, fun a' h => ?_⟩
      · cases i with
        | zero =>
          cases h
          exact ⟨.ref a, rfl, a, rfl, rfl⟩
        | succ i =>
          obtain ⟨v, h1, h2⟩ := (pack_slots S1.sub r1).slot i q h
          exact ⟨v, h1, by
            cases q with
            | dat d => exact h2
            | own n' =>
              obtain ⟨x, h3, _⟩ := h2
              cases h3
            | tl ds => exact h2
            | lk ds => exact h2⟩
      · cases n' with
        | zero =>
          cases h1
          cases h2
          exact ma
        | succ n' => cases h1
      · rw [List.mem_singleton] at h
        exact h ▸ ha
    · obtain ⟨P2, S2⟩ := S1.after1 a1 P S'.sub (S'.mem 0 a m' rfl rfl)
      exact k _ _ _ _ (P1.trans P2) S2 rv
/-- C(..): __init__ at a new instance -/
theorem dt_make {C : Addr} {n : Nat} {R : Mc → List D → D → Mc → Prop} {E : XK} {t : TA} {ds : List D} {fs : List (Str × D)} (h : DA K t ss mem ds m1) (hR : R (.obj C []) ds .non (.obj C fs)) (hn : ds.length + 1 = n := by rfl) : DT K (tMake C (spO K n R) [] E t) ss mem (.dat (.obj C fs)) m1 := fun B H al σ Q S k =>
  h B H al σ _ S fun B1 H1 al1 vs P1 S1 r1 x dx nx ndx nex => by
    have nb : B1 x = none := S1.sub.free nx
    have sH : Same H1 (upd (upd H1 dx (.own x)) x (.ins C dx [])) := fun b u e => by rw [upd_ne (ne_of_none e nx), upd_ne (ne_of_none e ndx)]; exact e
    refine ⟨B1, [x], .own 0 :: ds.map Vl.dat, [.obj C []], .non, [.obj C fs], ⟨_, ds, _, rfl, rfl, rfl, hR⟩, by rw [List.length_cons, List.length_map]; exact hn, rfl, ?_, fun B' H' v P S' rv => ⟨by cases rv; rfl, ?_⟩⟩
    · rw [List.append_nil]
      refine ⟨S1.sub.trans sH, by rw [List.length_map, List.length_map, List.length_cons, List.length_cons, List.length_map, r1.len], fun i q h => ?_, rfl, fun n' a' m'' h1 h2 => ?_, List.Pairwise.cons (fun _ z => by cases z) .nil, fun a' h => ?_⟩
      · cases i with
        | zero =>
          cases h
          exact ⟨.ref x, rfl, x, rfl, rfl⟩
        | succ i =>
          obtain ⟨v, h1, h2⟩ := (pack_slots (S1.sub.trans sH) r1).slot i q h
          exact ⟨v, h1, by
            cases q with
            | dat d => exact h2
            | own n' =>
              obtain ⟨x, h3, _⟩ := h2
              cases h3
            | tl ds => exact h2
            | lk ds => exact h2⟩
      · cases n' with
        | zero =>
          cases h1
          cases h2
          exact ⟨nb, dx, [], upd_same, .nil⟩
        | succ n' => cases h1
      · rw [List.mem_singleton] at h
        rw [h, upd_same]
        exact fun z => nomatch z
    · obtain ⟨b0, dx', fv, h3, h4⟩ := S'.mem 0 x _ rfl rfl
      have sB : Same B' (upd B' x (.ins C dx' fv)) := fun b u e => by rw [upd_ne (ne_of_none e b0)]; exact e
      have hnx : ∀ b, H1 b ≠ none → b ≠ x := fun b h e => h (e ▸ nx)
      have hnd : ∀ b, H1 b ≠ none → b ≠ dx := fun b h e => h (e ▸ ndx)
      have P0 : Stp B1 H1 [] (upd B' x (.ins C dx' fv)) H' [] := by
        refine ⟨P.same.trans sB, fun b u e _ => P.frame b u (sH b u e) (fun z => ?_), fun b h => ?_, fun b h => P.stay b ?_, [], rfl, fun _ h => by cases h⟩
        · rw [List.mem_singleton] at z
          exact ne_of_none e nx z
        · by_cases e : b = x
          · exact .inr (.inl (e ▸ nx))
          · rw [upd_ne e] at h
            rcases P.fresh b h with z | z | z | ⟨ys, z⟩
            · exact .inl z
            · refine .inr (.inl ?_)
              rw [upd_ne e] at z
              by_cases e2 : b = dx
              · exact e2 ▸ ndx
              · rw [upd_ne e2] at z
                exact z
            · rw [List.mem_singleton] at z
              exact absurd z e
            · rw [upd_ne e] at z
              by_cases e2 : b = dx
              · rw [e2, upd_same] at z
                cases z
              · rw [upd_ne e2] at z
                exact .inr (.inr (.inr ⟨ys, z⟩))
        · rw [upd_ne (hnx b h), upd_ne (hnd b h)]
          exact h
      have sub : Same (upd B' x (.ins C dx' fv)) H' := fun b u e => by
        by_cases q : b = x
        · subst q
          rw [upd_same] at e
          exact h3.trans e
        · rw [upd_ne q] at e
          exact S'.sub b u e
      obtain ⟨P2, S2⟩ := S1.after P0 sub
      exact k _ _ _ _ (P1.trans P2) S2 (.obj upd_same (RepFs.mono sB fs h4))
end

/-! ### a def keeps its promise -/
section
variable {P : Program} {w : World} {K : PySem.W.Frag} {mg : Str → Option Value} {base : Heap}
theorem start_sit {B H : Hp} {al : List Addr} {N : List Str} {vs : List V} {args : List Vl} {mem : List Mc} {n : Nat} (S : Sit K B H al (vs.map some) (args.map some) mem) (hn : args.length = n) : Sit K B H al (L2.start N vs) (args.map some ++ List.replicate (N.length - n) none) mem := by
  have hl : vs.length = args.length := by
    have := S.len
    rwa [List.length_map, List.length_map] at this
  refine ⟨S.sub, ?_, fun i r e => ?_, S.mlen, S.mem, S.nd, S.there⟩
  · unfold L2.start
    rw [List.length_append, List.length_append, List.length_map, List.length_map, List.length_replicate, List.length_replicate, hl, hn]
  · by_cases h : i < (args.map some).length
    · rw [List.getElem?_append_left h] at e
      obtain ⟨v, h1, h2⟩ := S.slot i r e
      refine ⟨v, ?_, h2⟩
      unfold L2.start
      rw [List.getElem?_append_left (List.getElem?_eq_some_iff.mp h1).1]
      exact h1
    · rw [List.getElem?_append_right (by omega), List.getElem?_replicate] at e
      split at e
      · cases e
      · cases e
/-- the answer of a def -/
def Ends1 (K : PySem.W.Frag) (t : TS) (ss : Sl) (mem : List Mc) (d : D) (mem' : List Mc) : Prop :=
  ∃ more, DS K t ss mem (.rt (.dat d) (mem' ++ more)) ∨ (d = .non ∧ ∃ s, DS K t ss mem (.nx s (mem' ++ more)))
theorem Ends1.rt {t : TS} {ss : Sl} {mem : List Mc} {d : D} {mem' : List Mc} (h : DS K t ss mem (.rt (.dat d) mem')) : Ends1 K t ss mem d mem' := ⟨[], .inl (by rw [List.append_nil]; exact h)⟩
theorem Ends1.nx {t : TS} {ss s : Sl} {mem : List Mc} {mem' : List Mc} (h : DS K t ss mem (.nx s mem')) : Ends1 K t ss mem .non mem' := ⟨[], .inr ⟨rfl, s, by rw [List.append_nil]; exact h⟩⟩
theorem fn_ok {x qual : Str} {st : Stmt} {f : Addr} {fd : FuncData} {N ps : List Str} {k n : Nat} {R : Rel} (F : Fun K x qual st f fd) (S : FnScope N ps (defScope st)) (hp : ps.length = n)
    (hbody : ∀ (cdv : Value) (A : Around) (outer : List Env) (s : Shared) (H : Hp) (E : XK), Room k (A.deeper (envOfC qual (defScope st) s.heap.objs.size f cdv)) →
      ∃ t, PSs (cxOf CX0 P w K mg base N qual (defScope st) f cdv A outer s H E).nox (defBody st) t ∧
        ∀ args mem d mem', R args mem d mem' → args.length = n → Ends1 K t (args.map some ++ List.replicate (N.length - n) none) mem d mem') :
    FnOk P w K mg base CX0 (k + 1) f fd ps (spD K n R) := by
  refine F.ok S (fun vs H Q E h => ?_) (fun cdv A outer s H vs Q E hr h => ?_)
  · obtain ⟨B, al, args, mem, d, mem', _, hn, _, S0, _⟩ := h
    have := S0.len
    rw [List.length_map, List.length_map] at this
    omega
  · obtain ⟨B, al, args, mem, d, mem', hR, hn, hm, S0, k0⟩ := h
    obtain ⟨t, ht, hd⟩ := hbody cdv A outer s H E hr
    refine ⟨t, ht, ?_⟩
    have fin : ∀ B' H' al' σ' ss' more v, Stp B H al B' H' al' → Sit K B' H' al' σ' ss' (mem' ++ more) → Rep K B' v d → Q v H' := fun B' H' al' σ' ss' more v P' S' rv => by
      have e1 : al.length = mem'.length := by rw [S0.mlen, hm]
      obtain ⟨ex, q, hx⟩ := P'.ext
      have e2 : al'.take mem'.length = al := by
        rw [q, List.take_append_of_le_length (by omega), List.take_of_length_le (by omega)]
      have P2 := P'.drop mem'.length (by omega)
      rw [e2] at P2
      have S1 : Sit K B' H' al' (vs.map some) ((args.map some).map fun _ => none) (mem' ++ more) := by
        refine ⟨S'.sub, ?_, fun i r e => ?_, S'.mlen, S'.mem, S'.nd, S'.there⟩
        · rw [List.length_map (as := args.map some)]
          exact S0.len
        · rw [List.getElem?_map] at e
          cases z : (args.map some)[i]? with
          | none => rw [z] at e; cases e
          | some y => rw [z] at e; cases e
      have S2 := S1.drop fun i n' e => by
        rw [List.getElem?_map] at e
        cases z : (args.map some)[i]? with
        | none => rw [z] at e; cases e
        | some y => rw [z] at e; cases e
      rw [e2] at S2
      exact k0 B' H' v P2 (S0.back P2 S2) rv
    obtain ⟨more, h | ⟨hd0, s', h⟩⟩ := hd args mem d mem' hR hn
    · exact h B H al (L2.start N vs) _ (start_sit S0 hn) fun B' H' al' P' σ' ss' v S' rv => fin B' H' al' σ' ss' more v P' S' rv
    · exact h B H al (L2.start N vs) _ (start_sit S0 hn) fun B' H' al' P' σ' S' => fin B' H' al' σ' s' more .non P' S' (hd0 ▸ .non)
theorem fnP {x qual : Str} {st : Stmt} {f : Addr} {fd : FuncData} {N ps : List Str} {k n : Nat} {R : List D → D → Prop} (F : Fun K x qual st f fd) (S : FnScope N ps (defScope st)) (hp : ps.length = n)
    (hbody : ∀ (cdv : Value) (A : Around) (outer : List Env) (s : Shared) (H : Hp) (E : XK), Room k (A.deeper (envOfC qual (defScope st) s.heap.objs.size f cdv)) →
      ∃ t, PSs (cxOf CX0 P w K mg base N qual (defScope st) f cdv A outer s H E).nox (defBody st) t ∧
        ∀ ds d, R ds d → ds.length = n → Ends1 K t ((ds.map fun d => some (.dat d)) ++ List.replicate (N.length - n) none) [] d []) :
    FnOk P w K mg base CX0 (k + 1) f fd ps (spP K n R) := fn_ok F S hp fun cdv A outer s H E hr => by
  obtain ⟨t, ht, h⟩ := hbody cdv A outer s H E hr
  refine ⟨t, ht, fun args mem d mem' hR hn => ?_⟩
  obtain ⟨ds, rfl, rfl, rfl, hR⟩ := hR
  rw [List.map_map]
  exact h ds d hR (by rw [List.length_map] at hn; exact hn)
theorem fnO {x qual : Str} {st : Stmt} {f : Addr} {fd : FuncData} {N ps : List Str} {k n : Nat} {R : Mc → List D → D → Mc → Prop} (F : Fun K x qual st f fd) (S : FnScope N ps (defScope st)) (hp : ps.length = n)
    (hbody : ∀ (cdv : Value) (A : Around) (outer : List Env) (s : Shared) (H : Hp) (E : XK), Room k (A.deeper (envOfC qual (defScope st) s.heap.objs.size f cdv)) →
      ∃ t, PSs (cxOf CX0 P w K mg base N qual (defScope st) f cdv A outer s H E).nox (defBody st) t ∧
        ∀ m ds d m', R m ds d m' → ds.length + 1 = n → Ends1 K t (some (.own 0) :: (ds.map fun d => some (.dat d)) ++ List.replicate (N.length - n) none) [m] d [m']) :
    FnOk P w K mg base CX0 (k + 1) f fd ps (spO K n R) := fn_ok F S hp fun cdv A outer s H E hr => by
  obtain ⟨t, ht, h⟩ := hbody cdv A outer s H E hr
  refine ⟨t, ht, fun args mem d mem' hR hn => ?_⟩
  obtain ⟨m, ds, m', rfl, rfl, rfl, hR⟩ := hR
  rw [List.map_cons, List.map_map]
  exact h m ds d m' hR (by rw [List.length_cons, List.length_map] at hn; exact hn)
end
end DL
end
section
set_option Elab.async false
set_option linter.all false
set_option maxRecDepth 100000
namespace DL
open PySem PySem.Spec PyProof.Rows L2
section
variable {K : PySem.W.Frag} {ss ss1 ss2 : Sl} {mem m1 m2 m3 m4 : List Mc} {ta tb tc te : TE} {i j : Int} {d e : D} {r r' : Vl} {t u : TS} {out : Out}
/-! ### built-ins -/
theorem one_data {B : Hp} {vs : List V} {d : D} (h : RepAll K B vs [d]) : ∃ v, vs = [v] ∧ Rep K B v d := by
  cases h with
  | cons h1 h2 =>
    cases h2
    exact ⟨_, rfl, h1⟩
theorem two_data {B : Hp} {vs : List V} {d e : D} (h : RepAll K B vs [d, e]) : ∃ v w, vs = [v, w] ∧ Rep K B v d ∧ Rep K B w e := by
  cases h with
  | cons h1 h2 =>
    cases h2 with
    | cons h2 h3 =>
      cases h3
      exact ⟨_, _, rfl, h1, h2⟩
def rLen (K : PySem.W.Frag) : List V → Hp → VK → Prop := fun xs H Q => ∃ p ys, xs = [.ref p] ∧ (SqL K H p ys ∨ SqT K H p ys) ∧ Q (.int ys.length) H
theorem dt_lenL {ds : List D} (h : DT K te ss mem (.dat (.lst ds)) m1) : DT K (tCB (fun xs H Q => ∃ p ys, xs = [.ref p] ∧ (SqL K H p ys ∨ SqT K H p ys) ∧ Q (.int ys.length) H) (tCons te tNil)) ss mem (.dat (.int ds.length)) m1 := fun B H al σ Q S k =>
  h B H al σ _ S fun B1 H1 al1 v P1 S1 r1 => by
    cases r1 with
    | lst s r => exact ⟨_, _, rfl, .inl (S1.seqL s), by rw [r.len]; exact k _ _ _ _ P1 S1 (.int _)⟩
theorem dt_lenT {ds : List D} (h : DT K te ss mem (.dat (.tup ds)) m1) : DT K (tCB (fun xs H Q => ∃ p ys, xs = [.ref p] ∧ (SqL K H p ys ∨ SqT K H p ys) ∧ Q (.int ys.length) H) (tCons te tNil)) ss mem (.dat (.int ds.length)) m1 := fun B H al σ Q S k =>
  h B H al σ _ S fun B1 H1 al1 v P1 S1 r1 => by
    cases r1 with
    | tup s r => exact ⟨_, _, rfl, .inr (S1.seqT (SqT.of s)), by rw [r.len]; exact k _ _ _ _ P1 S1 (.int _)⟩
theorem dt_lenO {n : Nat} {ds : List D} (h : DT K te ss mem (.own n) m1) (hm : m1[n]? = some (.lst ds)) : DT K (tCB (fun xs H Q => ∃ p ys, xs = [.ref p] ∧ (SqL K H p ys ∨ SqT K H p ys) ∧ Q (.int ys.length) H) (tCons te tNil)) ss mem (.dat (.int ds.length)) m1 := fun B H al σ Q S k =>
  h B H al σ _ S fun B1 H1 al1 v P1 S1 r1 => by
    obtain ⟨a, a1, rfl⟩ := r1
    obtain ⟨_, xs, a2, a3⟩ := S1.mem n a _ a1 hm
    exact ⟨_, _, rfl, .inl (SqL.of a2), by rw [a3.len]; exact k _ _ _ _ P1 S1 (.int _)⟩
theorem dt_int1 (h : DT K te ss mem (.dat (.int i)) m1) : DT K (tCB (fun xs H Q => (∃ i, xs = [.int i] ∧ Q (.int i) H) ∨ ∃ k, xs = [.bl k] ∧ Q (.int (if k then 1 else 0)) H) (tCons te tNil)) ss mem (.dat (.int i)) m1 := fun B H al σ Q S k =>
  h B H al σ _ S fun B1 H1 al1 v P1 S1 r1 => by
    cases r1
    exact .inl ⟨i, rfl, k _ _ _ _ P1 S1 (.int _)⟩
theorem dt_max2 {t : TA} (h : DA K t ss mem [.int i, .int j] m1) : DT K (tCB (fun xs H Q => ∃ i j, xs = [.int i, .int j] ∧ Q (.int (if j > i then j else i)) H) t) ss mem (.dat (.int (if j > i then j else i))) m1 := fun B H al σ Q S k =>
  h B H al σ _ S fun B1 H1 al1 vs P1 S1 r1 => by
    obtain ⟨v, w, rfl, h1, h2⟩ := two_data r1
    cases h1
    cases h2
    exact ⟨i, j, rfl, k _ _ _ _ P1 S1 (.int _)⟩
theorem dt_min2 {t : TA} (h : DA K t ss mem [.int i, .int j] m1) : DT K (tCB (fun xs H Q => ∃ i j, xs = [.int i, .int j] ∧ Q (.int (if j < i then j else i)) H) t) ss mem (.dat (.int (if j < i then j else i))) m1 := fun B H al σ Q S k =>
  h B H al σ _ S fun B1 H1 al1 vs P1 S1 r1 => by
    obtain ⟨v, w, rfl, h1, h2⟩ := two_data r1
    cases h1
    cases h2
    exact ⟨i, j, rfl, k _ _ _ _ P1 S1 (.int _)⟩
theorem dt_all {bs : List Bool} (h : DT K te ss mem (.dat (.lst (bs.map .bl))) m1) : DT K (tCB (rAll K) (tCons te tNil)) ss mem (.dat (.bl (bs.all id))) m1 := fun B H al σ Q S k =>
  h B H al σ _ S fun B1 H1 al1 v P1 S1 r1 => by
    cases r1 with
    | lst s r =>
      cases r.bls
      exact ⟨_, bs, rfl, S1.seqL s, k _ _ _ _ P1 S1 (.bl _)⟩
theorem dt_any {bs : List Bool} (h : DT K te ss mem (.dat (.lst (bs.map .bl))) m1) : DT K (tCB (rAny K) (tCons te tNil)) ss mem (.dat (.bl (bs.any id))) m1 := fun B H al σ Q S k =>
  h B H al σ _ S fun B1 H1 al1 v P1 S1 r1 => by
    cases r1 with
    | lst s r =>
      cases r.bls
      exact ⟨_, bs, rfl, S1.seqL s, k _ _ _ _ P1 S1 (.bl _)⟩
theorem dt_tupleL {ds : List D} (h : DT K te ss mem (.dat (.lst ds)) m1) : DT K (tThen te (kTup K)) ss mem (.dat (.tup ds)) m1 := fun B H al σ Q S k =>
  h B H al σ _ S fun B1 H1 al1 v P1 S1 r1 => by
    cases r1 with
    | @lst a xs _ s r =>
      refine .inl ⟨a, xs, rfl, S1.seqL s, fun q nq => ?_⟩
      obtain ⟨P, S'⟩ := S1.lay (o := .tup xs) nq
      exact k _ _ _ _ (P1.trans P) S' (.tup upd_same (RepAll.mono P.same ds r))
theorem dt_tupleO {n : Nat} {ds : List D} (h : DT K te ss mem (.own n) m1) (hm : m1[n]? = some (.lst ds)) : DT K (tThen te (kTup K)) ss mem (.dat (.tup ds)) m1 := fun B H al σ Q S k =>
  h B H al σ _ S fun B1 H1 al1 v P1 S1 r1 => by
    obtain ⟨a, a1, rfl⟩ := r1
    obtain ⟨_, xs, a2, a3⟩ := S1.mem n a _ a1 hm
    refine .inl ⟨a, xs, rfl, SqL.of a2, fun q nq => ?_⟩
    obtain ⟨P, S'⟩ := S1.lay (o := .tup xs) nq
    exact k _ _ _ _ (P1.trans P) S' (.tup upd_same (RepAll.mono P.same ds a3))
/-! isinstance -/
def D.tyn : D → Option String
  | .non => some "NoneType"
  | .bl _ => some "bool"
  | .int _ => some "int"
  | .str _ => some "str"
  | .lst _ => some "list"
  | .tup _ => some "tuple"
  | .obj _ _ => none
  | .ctp _ => none
  | .dic _ => none
  | .rls _ => none
theorem rep_ty {B H : Hp} {v : V} {T : String} (e : Same B H) : ∀ {d : D}, Rep K B v d → d.tyn = some T → TyX K H v (.type T)
  | .non, h, z => by cases h; cases z; exact .base .non
  | .bl b, h, z => by cases h; cases z; exact .base (.bl b)
  | .int b, h, z => by cases h; cases z; exact .base (.int b)
  | .str b, h, z => by cases h; cases z; exact .base (.str b)
  | .lst _, h, z => by
    cases h with
    | lst s r =>
      cases z
      rcases e.seq s with (q | ⟨o, q⟩) | ⟨o, its, n, q, c, _⟩
      · exact .base (.lst q)
      · exact .base (.frz q)
      · exact .kList q c
  | .tup _, h, z => by
    cases h with
    | tup s r =>
      cases z
      exact .base (.tup (e _ _ s))
theorem dt_isi {T c : String} {b : Bool} (h : DT K te ss mem (.dat d) m1) (hd : d.tyn = some T) (hb : kitB T c = some b) : DT K (tCB (rIsi K) (tCons te (tCons (tC (.ty c)) tNil))) ss mem (.dat (.bl b)) m1 := fun B H al σ Q S k =>
  h B H al σ _ S fun B1 H1 al1 v P1 S1 r1 => ⟨v, .ty c, .type T, .type c, b, rfl, .ty c, rep_ty S1.sub r1 hd, kit_ty hb, k _ _ _ _ P1 S1 (.bl b)⟩
abbrev ClsT := C8.InsC
theorem dt_isiC {C : Addr} {gs : List (Str × D)} (h : DT K te ss mem (.dat (.obj C gs)) m1) (T : ClsT K C) : DT K (tCB (rIsi K) (tCons te (tCons (tC (.ref C)) tNil))) ss mem (.dat (.bl true)) m1 := fun B H al σ Q S k =>
  h B H al σ _ S fun B1 H1 al1 v P1 S1 r1 => by
    cases r1 with
    | obj s r => exact ⟨_, .ref C, .ref C, .ref C, true, rfl, .own C, .base (.ins (S1.sub _ _ s) T.cl T.ha T.hn T.htk T.hm), T.me, k _ _ _ _ P1 S1 (.bl true)⟩
/-! == of data -/
mutual
def D.py : D → PyData
  | .non => .none
  | .bl b => .bool b
  | .int i => .int i
  | .str x => .str x
  | .lst ds => .list (D.pyAll ds)
  | .tup ds => .tuple (D.pyAll ds)
  | .obj _ _ => .none
  | .ctp _ => .none
  | .dic _ => .none
  | .rls _ => .none
def D.pyAll : List D → List PyData
  | [] => []
  | d :: ds => d.py :: D.pyAll ds
end
mutual
/-- data without objects and texts, at most n deep -/
def D.flat : Nat → D → Bool
  | _, .non => true
  | _, .bl _ => true
  | _, .int _ => true
  | 0, .lst _ => false
  | n + 1, .lst ds => D.flatAll n ds
  | 0, .tup _ => false
  | n + 1, .tup ds => D.flatAll n ds
  | _, _ => false
def D.flatAll : Nat → List D → Bool
  | _, [] => true
  | n, d :: ds => D.flat n d && D.flatAll n ds
end
mutual
theorem flat_lay : ∀ (n : Nat) (d : D), D.flat n d = true → d.py.canLay0 = true ∧ d.py.depth ≤ n
  | n, .non, _ => by cases n <;> simp [D.py, PyData.canLay0, PyData.depth]
  | n, .bl b, _ => by cases n <;> simp [D.py, PyData.canLay0, PyData.depth]
  | n, .int b, _ => by cases n <;> simp [D.py, PyData.canLay0, PyData.depth]
  | 0, .str _, h => by simp [D.flat] at h
  | n + 1, .str _, h => by simp [D.flat] at h
  | 0, .obj _ _, h => by simp [D.flat] at h
  | n + 1, .obj _ _, h => by simp [D.flat] at h
  | 0, .ctp _, h => by simp [D.flat] at h
  | n + 1, .ctp _, h => by simp [D.flat] at h
  | 0, .dic _, h => by simp [D.flat] at h
  | n + 1, .dic _, h => by simp [D.flat] at h
  | 0, .rls _, h => by simp [D.flat] at h
  | n + 1, .rls _, h => by simp [D.flat] at h
  | 0, .lst _, h => by simp [D.flat] at h
  | 0, .tup _, h => by simp [D.flat] at h
  | n + 1, .lst ds, h => by
    have q := flat_layAll n ds (by simpa [D.flat] using h)
    simp only [D.py, PyData.canLay0, PyData.depth]
    exact ⟨q.1, by have := q.2; omega⟩
  | n + 1, .tup ds, h => by
    have q := flat_layAll n ds (by simpa [D.flat] using h)
    simp only [D.py, PyData.canLay0, PyData.depth]
    exact ⟨q.1, by have := q.2; omega⟩
theorem flat_layAll : ∀ (n : Nat) (ds : List D), D.flatAll n ds = true → PyData.canLayAll0 (D.pyAll ds) = true ∧ PyData.depthAll (D.pyAll ds) ≤ n
  | n, [], _ => by simp [D.pyAll, PyData.canLayAll0, PyData.depthAll]
  | n, d :: ds, h => by
    rw [D.flatAll, Bool.and_eq_true] at h
    have q1 := flat_lay n d h.1
    have q2 := flat_layAll n ds h.2
    simp only [D.pyAll, PyData.canLayAll0, PyData.depthAll, Bool.and_eq_true]
    exact ⟨⟨q1.1, q2.1⟩, by have := q1.2; have := q2.2; omega⟩
end
theorem flat_shaped {n : Nat} {d : D} (h : D.flat n d = true) (hn : n ≤ 64) : SeqAt.shaped d.py = true := by
  obtain ⟨a, b⟩ := flat_lay n d h
  show (d.py.canLay0 && decide (d.py.depth ≤ 64)) = true
  rw [Bool.and_eq_true]
  exact ⟨a, decide_eq_true (by omega)⟩
mutual
theorem Rep.dp {B H : Hp} (e : Same B H) : ∀ (n : Nat) (d : D) {v : V}, Rep K B v d → D.flat n d = true → Dp K H v d.py
  | n, .non, _, h, _ => by cases h; rw [D.py]; exact .non
  | n, .bl b, _, h, _ => by cases h; rw [D.py]; exact .bl b
  | n, .int b, _, h, _ => by cases h; rw [D.py]; exact .int b
  | n, .str b, _, h, _ => by cases h; rw [D.py]; exact .str b
  | 0, .obj _ _, _, h, z => by simp [D.flat] at z
  | n + 1, .obj _ _, _, h, z => by simp [D.flat] at z
  | 0, .ctp _, _, h, z => by simp [D.flat] at z
  | n + 1, .ctp _, _, h, z => by simp [D.flat] at z
  | 0, .dic _, _, h, z => by simp [D.flat] at z
  | n + 1, .dic _, _, h, z => by simp [D.flat] at z
  | 0, .rls _, _, h, z => by simp [D.flat] at z
  | n + 1, .rls _, _, h, z => by simp [D.flat] at z
  | 0, .lst _, _, h, z => by simp [D.flat] at z
  | 0, .tup _, _, h, z => by simp [D.flat] at z
  | n + 1, .lst ds, _, h, z => by
    cases h with
    | lst s r =>
      rw [D.py]
      exact .lst (e.seq s) (RepAll.dp e n ds r (by simpa [D.flat] using z))
  | n + 1, .tup ds, _, h, z => by
    cases h with
    | tup s r =>
      rw [D.py]
      exact .tup (sameT e (SqT.of s)) (RepAll.dp e n ds r (by simpa [D.flat] using z))
theorem RepAll.dp {B H : Hp} (e : Same B H) : ∀ (n : Nat) (ds : List D) {vs : List V}, RepAll K B vs ds → D.flatAll n ds = true → DpAll K H vs (D.pyAll ds)
  | n, [], _, h, _ => by cases h; rw [D.pyAll]; exact .nil
  | n, d :: ds, _, h, z => by
    rw [D.flatAll, Bool.and_eq_true] at z
    cases h with
    | cons h1 h2 =>
      rw [D.pyAll]
      exact .cons (Rep.dp e n d h1 z.1) (RepAll.dp e n ds h2 z.2)
end
theorem eqv_self {n : Nat} {d : D} (h : D.flat n d = true) : PyData.eqv d.py d.py = true := SeqAt.eqv_refl _ (flat_lay n d h).1
theorem dt_eqD {n : Nat} (ha : DT K ta ss mem (.dat d) m1) (hb : DT K tb ss m1 (.dat e) m2) (hd : D.flat n d = true) (he : D.flat n e = true) (hn : n ≤ 64 := by decide) : DT K (tOp (rEqD K) ta tb) ss mem (.dat (.bl (PyData.eqv d.py e.py))) m2 :=
  dt_op ha hb fun B H al σ v w Q S hv hw k => ⟨_, _, Rep.dp S.sub n d hv hd, Rep.dp S.sub n e hw he, flat_shaped hd hn, flat_shaped he hn, k _ _ _ _ (Stp.refl _ _ _) S (.bl _)⟩
theorem dt_neD {n : Nat} (ha : DT K ta ss mem (.dat d) m1) (hb : DT K tb ss m1 (.dat e) m2) (hd : D.flat n d = true) (he : D.flat n e = true) (hn : n ≤ 64 := by decide) : DT K (tOp (rNeD K) ta tb) ss mem (.dat (.bl (!PyData.eqv d.py e.py))) m2 :=
  dt_op ha hb fun B H al σ v w Q S hv hw k => ⟨_, _, Rep.dp S.sub n d hv hd, Rep.dp S.sub n e hw he, flat_shaped hd hn, flat_shaped he hn, k _ _ _ _ (Stp.refl _ _ _) S (.bl _)⟩
theorem dt_neD_same {n : Nat} (ha : DT K ta ss mem (.dat d) m1) (hb : DT K tb ss m1 (.dat d) m2) (hd : D.flat n d = true) (hn : n ≤ 64 := by decide) : DT K (tOp (rNeD K) ta tb) ss mem (.dat (.bl false)) m2 := by
  have h := dt_neD ha hb hd hd hn
  rw [eqv_self hd] at h
  exact h
theorem dt_inD {n : Nat} {ds : List D} (ha : DT K ta ss mem (.dat d) m1) (hb : DT K tb ss m1 (.dat (.lst ds)) m2) (hd : D.flat n d = true) (he : D.flat n (.lst ds) = true) (hn : n ≤ 64 := by decide) :
    DT K (tOp (rInD K) ta tb) ss mem (.dat (.bl ((D.pyAll ds).any fun z => PyData.eqv z d.py))) m2 :=
  dt_op ha hb fun B H al σ v w Q S hv hw k => by
    have h2 := Rep.dp S.sub n (.lst ds) hw he
    have h3 := flat_shaped he hn
    rw [D.py] at h2 h3
    exact ⟨_, _, Rep.dp S.sub n d hv hd, h2, flat_shaped hd hn, h3, k _ _ _ _ (Stp.refl _ _ _) S (.bl _)⟩
theorem pyAll_mem {d : D} : ∀ {ds : List D}, d ∈ ds → d.py ∈ D.pyAll ds
  | x :: ds, h => by
    rw [D.pyAll]
    rcases List.mem_cons.mp h with z | z
    · rw [z]
      exact List.mem_cons_self
    · exact List.mem_cons_of_mem _ (pyAll_mem z)
theorem inD_mem {n : Nat} {ds : List D} (hm : d ∈ ds) (hd : D.flat n d = true) : ((D.pyAll ds).any fun z => PyData.eqv z d.py) = true :=
  List.any_eq_true.mpr ⟨_, pyAll_mem hm, eqv_self hd⟩
/-- x in data: a member -/
theorem dt_inD_mem {n : Nat} {ds : List D} (ha : DT K ta ss mem (.dat d) m1) (hb : DT K tb ss m1 (.dat (.lst ds)) m2) (hd : D.flat n d = true) (he : D.flat n (.lst ds) = true) (hm : d ∈ ds) (hn : n ≤ 64 := by decide) :
    DT K (tOp (rInD K) ta tb) ss mem (.dat (.bl true)) m2 := by
  have h := dt_inD ha hb hd he hn
  rw [inD_mem hm hd] at h
  exact h
/-! sorted(set(rows)), rows tuples of ints -/
def rowD (ns : List Int) : D := .tup (ns.map .int)
theorem RepAll.rows {B : Hp} : ∀ {nss : List (List Int)} {vs : List V}, RepAll K B vs (nss.map rowD) → ∃ ks : List (Addr × List Int), vs = ks.map (fun p => V.ref p.1) ∧ ks.map (·.2) = nss ∧ ∀ p ∈ ks, B p.1 = some (.tup (p.2.map V.int))
  | [], _, h => by cases h; exact ⟨[], rfl, rfl, fun _ h => by cases h⟩
  | ns :: nss, _, h => by
    cases h with
    | cons h1 h2 =>
      cases h1 with
      | @tup a xs _ s r =>
        obtain ⟨ks, e1, e2, e3⟩ := RepAll.rows h2
        cases r.ints
        refine ⟨(a, ns) :: ks, by rw [e1]; rfl, by rw [← e2]; rfl, fun p hp => ?_⟩
        rcases List.mem_cons.mp hp with z | z
        · rw [z]
          exact s
        · exact e3 p z
theorem RepAll.ofRows {B : Hp} : ∀ {ks : List (Addr × List Int)}, (∀ p ∈ ks, B p.1 = some (.tup (p.2.map V.int))) → RepAll K B (ks.map fun p => V.ref p.1) ((ks.map (·.2)).map rowD)
  | [], _ => .nil
  | p :: ks, h => .cons (.tup (h p List.mem_cons_self) (RepAll.ofInts p.2)) (RepAll.ofRows fun q hq => h q (List.mem_cons_of_mem _ hq))
/-- what sorted(set(..)) of such rows is -/
structure SortSet (B : Int) (nss out : List (List Int)) : Prop where
  mem : ∀ x, x ∈ out ↔ x ∈ nss
  nd : out.Nodup
  ord : out.Pairwise fun a b => TS.code B a ≤ TS.code B b
theorem dt_sortSet {P : Program} {w : World} {nss out : List (List Int)} {n : Nat} {Bd : Int} (h : DT K te ss mem (.dat (.lst (nss.map rowD))) m1) (hl : nss.length < 64) (hn : 1 ≤ n) (hb : ∀ x ∈ nss, x.length = n ∧ TS.Bd Bd x)
    (uniq : ∀ out', SortSet Bd nss out' → out' = out) : DT K (tCB (rSortedT K P w) (tCons (tCB (rSetOfT K P w) (tCons te tNil)) tNil)) ss mem (.dat (.lst (out.map rowD))) m1 := fun B H al σ Q S k =>
  h B H al σ _ S fun B1 H1 al1 v P1 S1 r1 => by
    cases r1 with
    | @lst l xs _ s r =>
      obtain ⟨ks, e1, e2, e3⟩ := RepAll.rows r
      subst e1
      have kl : ks.length = nss.length := by rw [← e2, List.length_map]
      refine ⟨l, ks, rfl, S1.seqL s, fun p hp => S1.seqT (SqT.of (e3 p hp)), by omega, fun a L na hL1 hL2 => ?_⟩
      obtain ⟨P2, S2⟩ := S1.lay (o := SetTO P w a L) na
      have e3' : ∀ p ∈ L, (upd B1 a (SetTO P w a L)) p.1 = some (.tup (p.2.map V.int)) := fun p hp => P2.same _ _ (e3 p (hL1 p hp))
      have hin : ∀ p ∈ ks, p.2 ∈ nss := fun p hp => by rw [← e2]; exact List.mem_map_of_mem hp
      refine ⟨a, L, n, Bd, rfl, upd_same, fun p hp => S2.seqT (SqT.of (e3' p hp)), hn, fun p hp => hb _ (hin p (hL1 p hp)), fun L' p hp hnd hfew hord np => ?_⟩
      obtain ⟨P3, S3⟩ := S2.lay (o := .lst (L'.map fun q => V.ref q.1)) np
      have hout : L'.map (·.2) = out := uniq _ ⟨fun x => ⟨fun hx => ?_, fun hx => ?_⟩, hnd, by rw [List.pairwise_map]; exact hord⟩
      · refine k _ _ _ _ ((P1.trans P2).trans P3) S3 (.lst (SqL.of upd_same) ?_)
        rw [← hout]
        exact RepAll.mono P3.same _ (RepAll.ofRows fun q hq => e3' q (hp.mem_iff.mp hq))
      · obtain ⟨q, hq, rfl⟩ := List.mem_map.mp hx
        exact hin q (hL1 q (hp.mem_iff.mp hq))
      · rw [← e2] at hx
        obtain ⟨q, hq, rfl⟩ := List.mem_map.mp hx
        obtain ⟨q', hq', e⟩ := List.mem_map.mp (hL2 q hq)
        exact List.mem_map.mpr ⟨q', hp.mem_iff.mpr hq', e⟩
end
end DL
end
section
set_option Elab.async false
set_option linter.all false
set_option maxRecDepth 100000
/-! enumerate(tuple); zip of two tuples, walked, said of data -/
namespace DL
open PySem PySem.Spec PyProof.Rows L2
/-! enumerate of a tuple, told once, without a start -/
set_option maxHeartbeats 1000000 in
theorem enumNew1 {v : Value} {o : Obj} {At : Heap → Prop} (beg : Begins v o At) : Meets (Builtin.«enumerate.__new__» ⟨[.type "enumerate", v], []⟩) fun _ R s =>
    At s.heap ∧ R (.ok (.ret (.ref (s.heap.objs.size + 1)))) { s with heap := (s.heap.push o).push ⟨.type "enumerate", none, .fields #[.none, .bool false, .ref s.heap.objs.size, rawInt 0, .none, .none], #[]⟩ } :=
  .of_wp fun P w A R ⟨hp, gs, dr, tk, os⟩ ⟨now, fin⟩ => by
    have self := sub_enumerate
    have begins := fun {A' : Around} {E Q : Value → Shared → Prop} => beg.iter P w A' E ⟨hp, gs, dr, tk, os⟩ Q now
    have two : (hp.push o).objs.size = hp.objs.size + 1 := Heap.size_push ..
    have done : ∀ z : Value, z = .ref (hp.push o).objs.size → R (.ok (.ret z)) _ := fun z e => by rw [e, two]; exact fin
    wp_walk using begins
    refine wpAny_stack_any fun _ => wpAny_pure ?_
    split
    case h_1 k _ _ _ _ _ => cases (k == Value.type "enumerate") <;> (wp_walk using begins) <;> exact ⟨_, rfl, done _ rfl⟩
    case h_2 => wp_walk using begins; exact ⟨_, rfl, done _ rfl⟩
/-- the pairs of place and item of the tuple at a (n items), each in a new tuple -/
def PlT (K : PySem.W.Frag) (a : Addr) (n : Nat) : It where
  go i H := i < n ∧ ∃ xs, SqT K H a xs ∧ xs.length = n
  yld i H v H' := ∃ T x, v = .ref T ∧ H T = none ∧ H' = upd H T (.tup [.int (i : Nat), x]) ∧ ∀ xs, SqT K H a xs → xs[i]? = some x
  stop i H := n ≤ i ∧ ∃ xs, SqT K H a xs ∧ xs.length = n
theorem turnPlT {P : Program} {w : World} {K : PySem.W.Frag} {elts : List Expr} {kk : Nat} {tpos : Pos} {a e it : Addr} {n : Nat} (ai : a ≠ it) (ei : e ≠ it) (ea : e ≠ a) :
    Turn P w K (.Tuple elts kk tpos) (PlT K a n) [e, it] e fun i h => i ≤ n ∧ (∃ old, IsEnum h e it (i : Nat) old) ∧ h.IsTupleIter it a i where
  mem := List.mem_cons_self
  obj i h st b hb := by
    obtain ⟨-, ⟨_, p⟩, oi, q, -, z⟩ := st
    rcases List.mem_cons.mp hb with y | y
    · subst y
      exact ⟨_, p, fun _ q => nomatch q⟩
    · cases List.mem_singleton.mp y
      exact ⟨oi, q, fun _ c => by rw [z] at c; cases c⟩
  keep i h h' st k := ⟨st.1, ⟨_, k e List.mem_cons_self _ st.2.1.choose_spec⟩, st.2.2.at (k it (by simp))⟩
  self A i s Q E st k := wpAny_pyIter_enum st.2.1.choose_spec k
  item := by
    rintro X rfl rfl rfl calm i pins s σ H E I free ⟨-, p, q⟩ ⟨lt, xs, sq, hn⟩
    obtain ⟨us, rel, tup, -⟩ := I.tuple sq
    have W := WalksT.enumerateD (Draws.tuple (prog := X.prog) (w := X.w) (A := X.A.in1) (show X.A.in1.handled = none from I.ok.hd calm) it a ai us.toArray) e ei (by simp [ei, ea]) (by simp)
    have hi : i < xs.length := hn ▸ lt
    obtain ⟨u', e1, rx⟩ := rel.get (List.getElem?_eq_getElem hi)
    refine W.item i s _ _ (by rw [List.size_toArray, ← rel.length]; exact hi) ⟨p, q, tup⟩ fun T vals h1 tk ⟨t, u, hu, hv⟩ new hT mid k1 => ⟨_, rfl, W.go elts kk tpos i T _ _ _ mid fun h2 ⟨p2, q2, _⟩ k2 => ?_⟩
    have e3 : us[i]? = some u := by simpa using hu
    cases e1.symm.trans e3
    have nT : T ∉ [e, it] := W.apart i T _ mid
    obtain ⟨oT, gT, cT, nn, dT⟩ := hT
    have pair : ObjOk X.prog X.w (upd H T (.tup [.int (i : Nat), xs[i]])) h2 T (.tup [.int (i : Nat), xs[i]]) :=
      ⟨by rw [sizeLine_eq]; show 2 ≤ 16777216; omega, [.int i t, u'], .cons ⟨t, rfl⟩ (.cons rx .nil), oT, k2 T oT nT gT, cT, nn, by rw [dT, hv]⟩
    have only : ∀ ys, SqT X.K H a ys → ys[i]? = some xs[i] := fun ys hy => by
      cases I.tuple_inj sq hy
      exact List.getElem?_eq_getElem hi
    refine ⟨.ref T, _, I.turnedNew (t' := tk) (fun b ob nb g => k2 b ob nb (k1 b ob nb g)) free new pair, rfl, ⟨T, xs[i], rfl, I.hok.fresh new, rfl, only⟩, ⟨lt, p2, q2⟩, fun b hb => ?_⟩
    have bT : b ≠ T := fun z => nT (by rw [← z]; exact hb)
    exact (upd_ne bT).trans (free b hb).1
  done := by
    rintro X rfl rfl rfl calm i pins s σ H E I free ⟨le, p, q⟩ ⟨ge, xs, sq, hn⟩
    obtain ⟨us, rel, tup, -⟩ := I.tuple sq
    have W := WalksT.enumerateD (Draws.tuple (prog := X.prog) (w := X.w) (A := X.A.in1) (show X.A.in1.handled = none from I.ok.hd calm) it a ai us.toArray) e ei (by simp [ei, ea]) (by simp)
    have len : i = us.toArray.size := by rw [List.size_toArray, ← rel.length]; omega
    subst len
    exact W.done s _ _ ⟨p, q, tup⟩ fun h1 tk k1 => ⟨rfl, I.turnedL k1 free⟩
def iEnumT (K : PySem.W.Frag) (ta : TA) : TI := fun σ H R => ta σ H fun vs H1 => ∃ a xs, vs = [.ref a] ∧ SqT K H1 a xs ∧ R (PlT K a xs.length) H1
theorem pi_enumT {X : Cx} {e : Expr} {ta : TA} {p pos tpos : Pos} {elts : List Expr} {kk : Nat} (hg : Gl X "enumerate") (hm : X.mg "enumerate" = none) (ha : PA X [e] ta) (hs : starEach [e] X.env = [(false, eval e X.env)] := by rfl) :
    PI X (.Tuple elts kk tpos) (.Call (.Name "enumerate" p) [e] [] pos) (iEnumT X.K ta) := ⟨fun pins s σ H R I h => by
  have args := ha.run pos pins s σ H _ I h
  refine Call_ (ld_blt I hg hm boot_enumerate (PyProof.Rows.callWith_type1 (thn args fun us s1 came => ?_) hs rfl))
  obtain ⟨vs, H1, I1, rel, a, xs, rfl, sq, k⟩ := came
  obtain ⟨_, rfl, ra⟩ := rel.one
  cases ra
  obtain ⟨its, -, tup, -⟩ := I1.tuple sq
  have before : a < s1.heap.objs.size := let ⟨_, g, _⟩ := tup; Heap.lt_size g
  refine callType_new F.called_enumerate (by decide) (F.typeCall_enumerate_1 _) (F.newCall_enumerate_1 _)
    (fun obj => F.args_object_init_2 obj _) F.entry_enumerate_new (enumNew1 (begins_tuple a its.toArray)) ⟨tup, ?_⟩
  generalize hob : ({ cls := .type "tuple_iterator", data := .fields #[.ref a, .int 0 0] } : Obj) = ob
  have two : (s1.heap.push ob).objs.size = s1.heap.objs.size + 1 := Heap.size_push ..
  have en : ∀ q : Obj, q.isFreed = false → ((s1.heap.push ob).push q).get? (s1.heap.objs.size + 1) = some q := fun q f => two ▸ Heap.get?_push_size _ f
  have old : ∀ q : Obj, ∀ b o, s1.heap.get? b = some o → ((s1.heap.push ob).push q).get? b = some o := fun q b o g => Heap.get?_push_of_some _ (Heap.get?_push_of_some _ g)
  have me := en ⟨.type "enumerate", none, .fields #[.none, .bool false, .ref s1.heap.objs.size, rawInt 0, .none, .none], #[]⟩ rfl
  have at0 : ((s1.heap.push ob).push ⟨.type "enumerate", none, .fields #[.none, .bool false, .ref s1.heap.objs.size, rawInt 0, .none, .none], #[]⟩).get? s1.heap.objs.size = some ob := Heap.get?_push_of_some _ (Heap.get?_push_size _ (hob ▸ rfl))
  refine ⟨⟨_, me, rfl⟩, wpAny_pyIter_enum (it := s1.heap.objs.size) me ?_⟩
  refine ⟨_, [s1.heap.objs.size + 1, s1.heap.objs.size], _, _, H1, rfl, I1.kept (t' := s1.toks) (old _), turnPlT (Nat.ne_of_lt before) (Nat.succ_ne_self _) (Nat.ne_of_gt (Nat.lt_succ_of_lt before)),
    ⟨Nat.zero_le _, ⟨_, me⟩, ⟨ob, at0, hob ▸ rfl, hob ▸ rfl⟩⟩, fun b hb => ?_, k⟩
  have ge : s1.heap.objs.size ≤ b := by
    rcases List.mem_cons.mp hb with y | y
    · exact y ▸ Nat.le_succ _
    · exact Nat.le_of_eq (List.mem_singleton.mp y).symm
  exact I1.fpOk ge (I1.hok.fresh ge)⟩
section
variable {K : PySem.W.Frag} {ss ss1 ss2 : Sl} {mem m1 m2 m3 m4 : List Mc} {ta tb tc te : TE} {i j : Int} {d e : D} {r r' : Vl} {t u : TS} {out : Out}
theorem Sit.layPair {B H : Hp} {al : List Addr} {σ : L2.St} (S : Sit K B H al σ ss mem) {T : Addr} {x y : V} (hT : H T = none) (r1 : Rep K B x d) (r2 : Rep K B y e) :
    ∃ B', Stp B H al B' (upd H T (.tup [x, y])) al ∧ Sit K B' (upd H T (.tup [x, y])) al σ ss mem ∧ Rep K B' (.ref T) (.tup [d, e]) := by
  obtain ⟨P, S'⟩ := S.lay (o := .tup [x, y]) hT
  exact ⟨_, P, S', .tup upd_same (.cons (Rep.mono P.same _ r1) (.cons (Rep.mono P.same _ r2) .nil))⟩
theorem di_enumT {ds : List D} (h : DT K te ss mem (.dat (.tup ds)) m1) : DI K (iEnumT K (tCons te tNil)) ss mem ds.length (fun i => .tup [.int (i : Nat), nthD ds i]) m1 := fun B H al σ R S k =>
  h B H al σ _ S fun B1 H1 al1 v P1 S1 r1 => by
    cases r1 with
    | @tup a xs _ s0 r =>
      refine ⟨a, xs, rfl, S1.seqT (SqT.of s0), k _ _ _ _ P1 S1 fun B2 H2 al2 σ2 ss2 mem2 e2 S2 => ?_⟩
      have s1 : SqT K H2 a xs := S2.seqT (SqT.of (e2 _ _ s0))
      refine ⟨fun i hi => ⟨⟨by rw [r.len]; exact hi, xs, s1, rfl⟩, fun x H' y => ?_⟩, fun i hi => ⟨by rw [r.len]; exact hi, xs, s1, rfl⟩⟩
      obtain ⟨v, h1, h2⟩ := r.get (nthD_get hi)
      obtain ⟨T, x', rfl, nT, rfl, y⟩ := y
      cases h1.symm.trans (y xs s1)
      exact S2.layPair nT (.int _) (Rep.mono e2 _ h2)
theorem di_enumL {ds : List D} (h : DT K te ss mem (.dat (.lst ds)) m1) : DI K (iEnum K (tCons te tNil)) ss mem ds.length (fun i => .tup [.int (i : Nat), nthD ds i]) m1 := fun B H al σ R S k =>
  h B H al σ _ S fun B1 H1 al1 v P1 S1 r1 => by
    cases r1 with
    | @lst a xs _ s r =>
      refine ⟨a, xs, rfl, S1.seqL s, k _ _ _ _ P1 S1 fun B2 H2 al2 σ2 ss2 mem2 e2 S2 => ?_⟩
      have s1 : SqL K H2 a xs := S2.seqL (e2.seq s)
      refine ⟨fun i hi => ?_, fun i hi => ⟨xs, s1, by rw [r.len]; exact hi⟩⟩
      obtain ⟨v, h1, h2⟩ := r.get (nthD_get hi)
      exact ⟨⟨xs, v, s1, h1⟩, fun x H' y => by
        obtain ⟨T, x', rfl, nT, rfl, y⟩ := y
        have q := y xs s1
        rw [h1] at q
        cases q
        exact S2.layPair nT (.int _) (Rep.mono e2 _ h2)⟩
theorem di_zipT {ds es : List D} {t : TA} (h : DA K t ss mem [.tup ds, .tup es] m1) (hl : ds.length = es.length) : DI K (RZ.iZipA K t) ss mem ds.length (fun i => .tup [nthD ds i, nthD es i]) m1 := fun B H al σ R S k =>
  h B H al σ _ S fun B1 H1 al1 vs P1 S1 r1 => by
    obtain ⟨v, w, rfl, q1, q2⟩ := two_data r1
    cases q1 with
    | @tup a xs _ s0 r =>
      have s : SqT K B1 a xs := SqT.of s0
      cases q2 with
      | @tup b ys _ s0' r' =>
        have s' : SqT K B1 b ys := SqT.of s0'
        refine ⟨a, b, xs, ys, rfl, .inr ⟨S1.seqT s, S1.seqT s', k _ _ _ _ P1 S1 fun B2 H2 al2 σ2 ss2 mem2 e2 S2 => ?_⟩⟩
        have s1 : SqT K H2 a xs := S2.seqT (sameT e2 s)
        have s2 : SqT K H2 b ys := S2.seqT (sameT e2 s')
        refine ⟨fun i hi => ?_, fun i hi => ⟨xs, ys, s1, s2, .inl (by rw [r.len]; exact hi)⟩⟩
        obtain ⟨v, h1, h2⟩ := r.get (nthD_get hi)
        obtain ⟨v', h1', h2'⟩ := r'.get (nthD_get (show i < es.length by omega))
        exact ⟨⟨xs, ys, v, v', s1, s2, h1, h1'⟩, fun x H' y => by
          obtain ⟨T, x', y', rfl, nT, rfl, z, z'⟩ := y
          have q := z xs s1
          rw [h1] at q
          cases q
          have q' := z' ys s2
          rw [h1'] at q'
          cases q'
          exact S2.layPair nT (Rep.mono e2 _ h2) (Rep.mono e2 _ h2')⟩
theorem di_zipL {ds es : List D} {t : TA} (h : DA K t ss mem [.lst ds, .lst es] m1) (hl : ds.length = es.length) : DI K (iZip K t) ss mem ds.length (fun i => .tup [nthD ds i, nthD es i]) m1 := fun B H al σ R S k =>
  h B H al σ _ S fun B1 H1 al1 vs P1 S1 r1 => by
    obtain ⟨v, w, rfl, q1, q2⟩ := two_data r1
    cases q1 with
    | @lst a xs _ s r =>
      cases q2 with
      | @lst b ys _ s' r' =>
        refine ⟨a, b, xs, ys, rfl, S1.seqL s, S1.seqL s', k _ _ _ _ P1 S1 fun B2 H2 al2 σ2 ss2 mem2 e2 S2 => ?_⟩
        have s1 : SqL K H2 a xs := S2.seqL (e2.seq s)
        have s2 : SqL K H2 b ys := S2.seqL (e2.seq s')
        refine ⟨fun i hi => ?_, fun i hi => ⟨xs, ys, s1, s2, .inl (by rw [r.len]; exact hi)⟩⟩
        obtain ⟨v, h1, h2⟩ := r.get (nthD_get hi)
        obtain ⟨v', h1', h2'⟩ := r'.get (nthD_get (show i < es.length by omega))
        exact ⟨⟨xs, ys, v, v', s1, s2, h1, h1'⟩, fun x H' y => by
          obtain ⟨T, x', y', rfl, nT, rfl, z, z'⟩ := y
          have q := z xs s1
          rw [h1] at q
          cases q
          have q' := z' ys s2
          rw [h1'] at q'
          cases q'
          exact S2.layPair nT (Rep.mono e2 _ h2) (Rep.mono e2 _ h2')⟩
end
end DL
end
section
set_option Elab.async false
set_option linter.all false
set_option maxRecDepth 100000
/-! the rules whose reading names the written part, with that part written out (for blocks of comprehensions) -/
namespace DL
open PySem PySem.Spec PyProof.Rows L2
section
variable {X : Cx} (K : PySem.W.Frag)
theorem ixT (h : X.K = K := by rfl) : IxR X (rIxT K) := h ▸ ix_tup
theorem ixL (h : X.K = K := by rfl) : IxR X (rIxL K) := h ▸ ix_list
theorem slT (h : X.K = K := by rfl) : SlR X (rSlA K) := h ▸ sl_tupA
theorem slL (h : X.K = K := by rfl) : SlR X (rSlL K) := h ▸ sl_list
theorem opLtT (hu : X.A.units < cLine) (h : X.K = K := by rfl) : OpR X (compareOp .Lt) (rLtT K) := h ▸ op_ltT hu
theorem opEqD (hu : X.A.units + 64 < cLine) (h : X.K = K := by rfl) : OpR X (compareOp .Eq) (rEqD K) := h ▸ op_eqD hu
theorem opNeD (hu : X.A.units + 64 < cLine) (h : X.K = K := by rfl) : OpR X (compareOp .NotEq) (rNeD K) := h ▸ op_neD hu
theorem opInD (hu : X.A.units + 65 < cLine) (h : X.K = K := by rfl) : OpR X (compareOp .In) (rInD K) := h ▸ op_inD hu
theorem opNotInD (hu : X.A.units + 65 < cLine) (h : X.K = K := by rfl) : OpR X (compareOp .NotIn) (rNotInD K) := h ▸ op_notInD hu
theorem opCatA (h : X.K = K := by rfl) : OpR X (binaryOp .Add) (rCatA K) := h ▸ op_catA
theorem callIsi (h : X.K = K := by rfl) : CallR X (.builtin "isinstance") (rIsi K) := h ▸ call_isi
theorem callLen (h : X.K = K := by rfl) : CallR X (.builtin "len") (fun xs H Q => ∃ p ys, xs = [.ref p] ∧ (SqL K H p ys ∨ SqT K H p ys) ∧ Q (.int ys.length) H) := h ▸ call_len_seq
theorem crAll (hc : X.calm = true := by rfl) (h : X.K = K := by rfl) : CallR X (.builtin "all") (rAll K) := h ▸ cr_all hc
theorem crAny (hc : X.calm = true := by rfl) (h : X.K = K := by rfl) : CallR X (.builtin "any") (rAny K) := h ▸ cr_any hc
theorem peFld {e : Expr} {f : Str} {pos : Pos} {ta : TE} (ha : PE X e ta) (h : X.K = K := by rfl) (hb : attributeBase e f X.env (eval e X.env) = eval e X.env := by rfl) : PE X (.Attribute e f pos) (tFld K ta f) := h ▸ pe_fld ha hb
theorem pgTup (n : Nat) {es : List Expr} {k : Nat} {pos : Pos} {t : TGs} (ht : PGs X es t) (hc : X.calm = true := by rfl) (h : X.K = K := by rfl) (hn : (assignEach es X.env).length = n := by rfl) (hst : (assignEach es X.env).findIdx? (·.1) = none := by rfl) : PG X (.Tuple es k pos) (gTup K n t) := h ▸ pg_tup hc ht hn hst
theorem piList {tg l : Expr} {tl : TE} (hl : PE X l tl) (h : X.K = K := by rfl) : PI X tg l (iList K tl) := h ▸ pi_list hl
theorem piTup {tg l : Expr} {tl : TE} (hl : PE X l tl) (h : X.K = K := by rfl) : PI X tg l (iTup K tl) := h ▸ pi_tup hl
theorem piEnumT {e : Expr} {ta : TA} {p pos tpos : Pos} {elts : List Expr} {kk : Nat} (hg : Gl X "enumerate") (hm : X.mg "enumerate" = none) (ha : PA X [e] ta) (h : X.K = K := by rfl) (hs : starEach [e] X.env = [(false, eval e X.env)] := by rfl) :
    PI X (.Tuple elts kk tpos) (.Call (.Name "enumerate" p) [e] [] pos) (iEnumT K ta) := h ▸ pi_enumT hg hm ha hs
theorem piEnumL {e : Expr} {ta : TA} {p pos tpos : Pos} {elts : List Expr} {kk : Nat} (hg : Gl X "enumerate") (hm : X.mg "enumerate" = none) (ha : PA X [e] ta) (h : X.K = K := by rfl) (hs : starEach [e] X.env = [(false, eval e X.env)] := by rfl) :
    PI X (.Tuple elts kk tpos) (.Call (.Name "enumerate" p) [e] [] pos) (iEnum K ta) := h ▸ pi_enum hg hm ha hs
end
end DL
namespace DL
open PySem L2
theorem room_in {k : Nat} {A : Around} (r : Room k A) : A.units + 65 < cLine := by have := r.un; omega
end DL
end
section
set_option Elab.async false
set_option linter.all false
set_option maxRecDepth 100000
/-! loops whose turns leave names behind that nothing reads -/
namespace DL
open PySem PySem.Spec PyProof.Rows L2
section
variable {K : PySem.W.Frag} {ss ss1 ss2 : Sl} {mem m1 m2 m3 m4 : List Mc} {ta tb tc te : TE} {i j : Int} {d e : D} {r r' : Vl} {t u : TS} {out : Out}
theorem wipeS_len (s : Sl) : ∀ ks : List Nat, (wipeS s ks).length = s.length
  | [] => rfl
  | k :: ks => by
    show (List.set _ _ _).length = _
    rw [List.length_set, wipeS_len s ks]
theorem wipeS_some {s : Sl} {i : Nat} {r : Vl} : ∀ {ks : List Nat}, (wipeS s ks)[i]? = some (some r) → s[i]? = some (some r)
  | [], h => h
  | k :: ks, h => by
    have h : ((wipeS s ks).set k none)[i]? = some (some r) := h
    by_cases e : k = i
    · subst e
      by_cases hl : k < (wipeS s ks).length
      · rw [List.getElem?_set_self hl] at h
        cases h
      · rw [List.getElem?_eq_none (by rw [List.length_set]; omega)] at h
        cases h
    · rw [List.getElem?_set_ne e] at h
      exact wipeS_some h
theorem ds_wipe (ks : List Nat) (h : DS K t ss mem (.nx ss1 m1)) (e : wipeS ss1 ks = ss2) : DS K t ss mem (.nx ss2 m1) :=
  ds_forget h (by rw [← e, wipeS_len]) fun i r q => by
    rw [← e] at q
    exact wipeS_some q
/-! lists that are data, and tracked -/
theorem dt_tl {ds : List D} (h : DT K te ss mem (.tl ds) m1) : DT K te ss mem (.dat (.lst ds)) m1 := fun B H al σ Q S k =>
  h B H al σ _ S fun B1 H1 al1 v P1 S1 r1 => by
    obtain ⟨a, xs, rfl, h1, h2⟩ := r1
    exact k _ _ _ _ P1 S1 (.lst (SqL.of h1) h2)
theorem dt_lstT {t : TA} {ds : List D} (h : DA K t ss mem ds m1) (hl : ds.length ≤ 16777216 := by exact Nat.le_of_ble_eq_true rfl) : DT K (tLst t) ss mem (.tl ds) m1 := fun B H al σ Q S k =>
  h B H al σ _ S fun B1 H1 al1 vs P1 S1 r1 => by
    refine ⟨by rw [r1.len, sizeLine_eq]; exact hl, fun p np => ?_⟩
    obtain ⟨P, S'⟩ := S1.lay (o := .lst vs) np
    exact k _ _ _ _ (P1.trans P) S' ⟨p, vs, rfl, upd_same, RepAll.mono P.same ds r1⟩
theorem dt_catT {ds es : List D} (ha : DT K ta ss mem (.tl ds) m1) (hb : DT K tb ss m1 (.tl es) m2) (hl : ds.length + es.length ≤ 16777216) : DT K (tOp rCat ta tb) ss mem (.tl (ds ++ es)) m2 :=
  dt_op ha hb fun B H al σ v w Q S hv hw k => by
    obtain ⟨a, xs, rfl, a2, a3⟩ := hv
    obtain ⟨b, ys, rfl, b2, b3⟩ := hw
    refine ⟨a, b, xs, ys, rfl, rfl, S.sub _ _ a2, S.sub _ _ b2, by rw [a3.len, b3.len, sizeLine_eq]; exact hl, fun p np => ?_⟩
    obtain ⟨P, S'⟩ := S.lay (o := .lst (xs ++ ys)) np
    exact k _ _ _ _ P S' ⟨p, _, rfl, upd_same, RepAll.mono P.same _ (a3.append b3)⟩
/-- no own object beyond these is named -/
def ownsUnder (n : Nat) : Sl → Bool
  | [] => true
  | some (.own k) :: s => decide (k < n) && ownsUnder n s
  | _ :: s => ownsUnder n s
theorem ownsUnder_ok {n : Nat} : ∀ {s : Sl}, ownsUnder n s = true → ∀ (i k : Nat), s[i]? = some (some (Vl.own k)) → k < n
  | [], _, i, k, h => by simp at h
  | none :: s, h, 0, k, e => by cases e
  | none :: s, h, i + 1, k, e => ownsUnder_ok (s := s) h i k (by simpa using e)
  | some (.dat d) :: s, h, 0, k, e => by cases e
  | some (.dat d) :: s, h, i + 1, k, e => ownsUnder_ok (s := s) h i k (by simpa using e)
  | some (.tl d) :: s, h, 0, k, e => by cases e
  | some (.tl d) :: s, h, i + 1, k, e => ownsUnder_ok (s := s) h i k (by simpa using e)
  | some (.lk d) :: s, h, 0, k, e => by cases e
  | some (.lk d) :: s, h, i + 1, k, e => ownsUnder_ok (s := s) h i k (by simpa using e)
  | some (.own j) :: s, h, 0, k, e => by
    have h' : (decide (j < n) && ownsUnder n s) = true := h
    cases e
    exact of_decide_eq_true (Bool.and_eq_true_iff.mp h').1
  | some (.own j) :: s, h, i + 1, k, e => by
    have h' : (decide (j < n) && ownsUnder n s) = true := h
    exact ownsUnder_ok (s := s) (Bool.and_eq_true_iff.mp h').2 i k (by simpa using e)
/-- names and the last own objects are let go -/
theorem ds_shed (ks : List Nat) (more : List Mc) (h : DS K t ss mem (.nx ss1 (m1 ++ more))) (e : wipeS ss1 ks = ss2) (ho : ownsUnder m1.length ss2 = true) (hm : mem.length ≤ m1.length) : DS K t ss mem (.nx ss2 m1) :=
  ds_less h (by rw [← e, wipeS_len]) (fun i r q => by
    rw [← e] at q
    exact wipeS_some q) (ownsUnder_ok ho) hm
/-- ahead of a statement -/
theorem ds_pre (ks : List Nat) (e : wipeS ss ks = ss1) (h : DS K t ss1 mem out) : DS K t ss mem out := fun B H al σ Dn S k =>
  h B H al σ Dn (S.less (by rw [← e, wipeS_len]) fun i r q => by
    rw [← e] at q
    exact wipeS_some q) k
/-- for x in ..: the turns leave the names ks (x among them) behind, and more own objects -/
theorem ds_forW {wi : TI} {k : Nat} {tb : TS} {n : Nat} {it : Nat → D} (ks : List Nat) (f : Nat → Sl) (m : Nat → List Mc) (f0 : wipeS ss ks = f 0) (hi : DI K wi (f 0) mem n it (m 0)) (hlen : ∀ i, (m i).length = (m (i + 1)).length)
    (ho : ∀ i, ownsUnder (m i).length (f i) = true)
    (step : ∀ i, i < n → ∃ s' more, DS K tb ((f i).set k (some (.dat (it i)))) (m i) (.nx s' (m (i + 1) ++ more)) ∧ wipeS s' ks = f (i + 1)) : DS K (tFor wi (gName k) tb) ss mem (.nx (f n) (m n)) :=
  ds_pre ks f0 (ds_for_all hi f m rfl rfl fun i h => by
    obtain ⟨s', more, a, b⟩ := step i h
    exact ⟨_, _, dg_name, ds_shed ks more a b (ho (i + 1)) (by rw [hlen i]; exact Nat.le_refl _)⟩)
/-- where no own object changes -/
theorem ds_forP {wi : TI} {k : Nat} {tb : TS} {n : Nat} {it : Nat → D} (ks : List Nat) (f : Nat → Sl) (f0 : wipeS ss ks = f 0) (hi : DI K wi (f 0) mem n it m1)
    (step : ∀ i, i < n → ∃ s', DS K tb ((f i).set k (some (.dat (it i)))) m1 (.nx s' m1) ∧ wipeS s' ks = f (i + 1)) : DS K (tFor wi (gName k) tb) ss mem (.nx (f n) m1) :=
  ds_pre ks f0 (ds_for_all hi f (fun _ => m1) rfl rfl fun i h => by
    obtain ⟨s', a, b⟩ := step i h
    exact ⟨_, _, dg_name, ds_wipe ks a b⟩)
end
end DL
end
section
set_option Elab.async false
set_option linter.all false
set_option maxRecDepth 100000
/-! len of an instance by its own __len__; range with a step -/
namespace DL
open PySem PySem.Spec PyProof.Rows L2
section
variable {X : Cx} {CX : CXT} {k : Nat} {C f : Addr} {fd : FuncData} {ps : List Str} {sp : Sp} {E : XK}
def rLenOwn (C : Addr) (sp : Sp) (E : XK) : List V → Hp → VK → Prop := fun xs H Q => ∃ a dx fs, xs = [V.ref a] ∧ H a = some (.ins C dx fs) ∧ sp [.ref a] H (fun z H' => ∃ i, z = .int i ∧ 0 ≤ i ∧ i < 2 ^ 63 ∧ Q (.int i) H') E
theorem call_lenOwn (M : Meth X.K C "__len__" f) (F : FnOk X.prog X.w X.K X.mg X.base CX k f fd ps sp) (hr : Room (k + 1) X.A) (hb : Binds X.K fd ps []) (hx : Passes CX X E) : CallR X (.builtin "len") (rLenOwn C sp E) := by
  rintro pins s σ H _ us Q I r ⟨a, dx, fs, rfl, inst, said⟩
  obtain ⟨u, rfl, rfl⟩ : ∃ u, us = [u] ∧ u = Value.ref a := let ⟨u, e, z⟩ := r.one; ⟨u, e, z⟩
  have one : [a].length = ps.length := F.len _ _ _ _ said
  have bound : BindsTo s fd ⟨[.ref a], []⟩ (ps.zip [.ref a]) := by simpa using hb s [.ref a] I.kIn (by simpa using one)
  obtain ⟨_, fr⟩ := I.fr
  have own := (ins_get I.hok inst).choose_spec.1.look.choose_spec.1
  refine PySem.W.len_K fr I.ok.mod.kin own M.at_ M.fn (wpAny_call (codeAny_mono
    (F.run X.A.in1 X.stack s H ⟨[.ref a], []⟩ [.ref a] [.ref a] _ E hr.in1 I.env0.in1 bound (.cons rfl .nil) said) fun fl s' z => ?_))
  match fl, z with
  | .error err, z => exact hx pins σ H s err s' I z
  | .ok (.ret w), z =>
    obtain ⟨_, H', I', rel, i, rfl, ge, lt, k⟩ := I.after z
    obtain ⟨_, rfl⟩ := rel
    exact ⟨⟨ge, lt⟩, .int i, H', I'.tok _, ⟨_, rfl⟩, k⟩
end
section
variable {K : PySem.W.Frag} {ss ss1 ss2 : Sl} {mem m1 m2 m3 m4 : List Mc} {ta tb tc te : TE} {i j : Int} {d e : D} {r r' : Vl} {t u : TS} {out : Out}
theorem dt_lenOwn {C : Addr} {R : List D → D → Prop} {E : XK} {gs : List (Str × D)} (h : DT K te ss mem (.dat (.obj C gs)) m1) (hR : R [.obj C gs] (.int i)) (h0 : 0 ≤ i) (h1 : i < 2 ^ 63) : DT K (tCB (rLenOwn C (spP K 1 R) E) (tCons te tNil)) ss mem (.dat (.int i)) m1 := fun B H al σ Q S k =>
  h B H al σ _ S fun B1 H1 al1 v P1 S1 r1 => by
    have r0 := r1
    cases r1 with
    | @obj a _ dx fs _ s r =>
      refine ⟨a, dx, fs, rfl, S1.sub _ _ s, B1, [], [.dat (.obj C gs)], [], .int i, [], ⟨[.obj C gs], rfl, rfl, rfl, hR⟩, rfl, rfl, pack_slots S1.sub (.cons r0 .nil), fun B' H' v P S' rv => ?_⟩
      cases rv
      obtain ⟨P2, S2⟩ := S1.after P S'.sub
      exact ⟨i, rfl, h0, h1, k _ _ _ _ (P1.trans P2) S2 (.int i)⟩
theorem walks_rangeC (B : Hp) (lo c : Int) (n : Nat) : Walks K B (Itc lo c n) n fun i => .int (lo + (i : Nat) * c) := fun B1 H al σ ss mem e S =>
  ⟨fun i hi => ⟨hi, fun x H' y => by
    obtain ⟨rfl, rfl⟩ := y
    exact ⟨B1, Stp.refl _ _ _, S, .int _⟩⟩, fun i hi => hi⟩
theorem di_rng3 {t : TA} {c : Int} {n : Nat} (h : DA K t ss mem [.int i, .int j, .int c] m1) (hb : RgC i j c n) : DI K (iRng3 t) ss mem n (fun k => .int (i + (k : Nat) * c)) m1 := fun B H al σ R S k =>
  h B H al σ _ S fun B1 H1 al1 vs P1 S1 r1 => by
    cases r1 with
    | cons r1 r2 =>
      cases r2 with
      | cons r2 r3 =>
        cases r3 with
        | cons r3 r4 =>
          cases r4
          cases r1
          cases r2
          cases r3
          exact ⟨i, j, c, n, rfl, hb, k _ _ _ _ P1 S1 (walks_rangeC _ _ _ _)⟩
end
end DL
end
section
set_option Elab.async false
set_option linter.all false
set_option maxRecDepth 100000
/-! dicts whose keys are tuples of ints -/
namespace DL
open PySem PySem.Spec PyProof.Rows L2
theorem ik_inj {a b : List Int} (h : ik a = ik b) : a = b := List.map_inj_right (fun x y e => by injection e) |>.mp h
theorem ik_kV (a : List Int) : (ik a).map kV = a.map V.int := by unfold ik; rw [List.map_map]; rfl
def getI : List (List Int × D) → List Int → Option D
  | [], _ => none
  | p :: m, k => if p.1 = k then some p.2 else getI m k
def putI (m : List (List Int × D)) (k : List Int) (d : D) : List (List Int × D) :=
  if (getI m k).isSome = true then m.map (fun p => if p.1 = k then (p.1, d) else p) else m ++ [(k, d)]
def dropI (m : List (List Int × D)) (k : List Int) : List (List Int × D) := m.filter fun p => decide (p.1 ≠ k)
section
variable {K : PySem.W.Frag} {B B' : Hp}
theorem rep_key {v : V} {ns : List Int} (h : Rep K B v (rowD ns)) : ∃ b, v = .ref b ∧ B b = some (.tup ((ik ns).map kV)) := by
  cases h with
  | tup s r =>
    cases r.ints
    exact ⟨_, rfl, by rw [ik_kV]; exact s⟩
theorem key_rep {b : Addr} {ns : List Int} (h : B b = some (.tup ((ik ns).map kV))) : Rep K B (.ref b) (rowD ns) :=
  .tup (by rw [← ik_kV]; exact h) (RepAll.ofInts ns)
theorem RepKv.get {m : List (List Int × D)} {kvs : List (List L2.Key × V)} (h : RepKv K B kvs m) (k : List Int) :
    (∃ v d, valV kvs (ik k) = some v ∧ getI m k = some d ∧ Rep K B v d) ∨ (valV kvs (ik k) = none ∧ getI m k = none) := by
  induction m generalizing kvs with
  | nil => cases h; exact .inr ⟨rfl, rfl⟩
  | cons p m ih =>
    obtain ⟨f, d⟩ := p
    cases h with
    | @cons _ v vs _ _ h1 h2 =>
      by_cases e : f = k
      · subst e
        exact .inl ⟨v, d, valV_pos rfl, if_pos rfl, h1⟩
      · have e' : ¬ ik f = ik k := fun z => e (ik_inj z)
        rcases ih h2 with ⟨v', d', a, b, c⟩ | ⟨a, b⟩
        · exact .inl ⟨v', d', (valV_neg e').trans a, (if_neg e).trans b, c⟩
        · exact .inr ⟨(valV_neg e').trans a, (if_neg e).trans b⟩
theorem RepKv.len {m : List (List Int × D)} {kvs : List (List L2.Key × V)} (h : RepKv K B kvs m) : kvs.length = m.length := by
  induction m generalizing kvs with
  | nil => cases h; rfl
  | cons p m ih =>
    cases h with
    | cons h1 h2 => rw [List.length_cons, List.length_cons, ih h2]
theorem RepKv.snoc {m : List (List Int × D)} {kvs : List (List L2.Key × V)} {k : List Int} {v : V} {d : D} (h : RepKv K B kvs m) (r : Rep K B v d) : RepKv K B (kvs ++ [(ik k, v)]) (m ++ [(k, d)]) := by
  induction m generalizing kvs with
  | nil => cases h; exact .cons r .nil
  | cons p m ih =>
    cases h with
    | cons h1 h2 => exact .cons h1 (ih h2)
theorem RepKv.repl {m : List (List Int × D)} {kvs : List (List L2.Key × V)} {k : List Int} {v : V} {d : D} (h : RepKv K B kvs m) (r : Rep K B v d) :
    RepKv K B (kvs.map fun kv => if kv.1 = ik k then (kv.1, v) else kv) (m.map fun p => if p.1 = k then (p.1, d) else p) := by
  induction m generalizing kvs with
  | nil => cases h; exact .nil
  | cons p m ih =>
    obtain ⟨f, x⟩ := p
    cases h with
    | @cons _ y vs _ _ h1 h2 =>
      rw [List.map_cons, List.map_cons]
      by_cases e : f = k
      · subst e
        rw [if_pos rfl, if_pos rfl]
        exact .cons r (ih h2)
      · rw [if_neg (fun (z : ik f = ik k) => e (ik_inj z)), if_neg e]
        exact .cons h1 (ih h2)
theorem RepKv.put {m : List (List Int × D)} {kvs : List (List L2.Key × V)} {k : List Int} {v : V} {d : D} (h : RepKv K B kvs m) (r : Rep K B v d) : RepKv K B (putK kvs (ik k) v) (putI m k d) := by
  unfold putK putI
  rw [valV_any]
  rcases h.get k with ⟨v', d', a, b, _⟩ | ⟨a, b⟩
  · rw [a, b]
    exact h.repl r
  · rw [a, b]
    exact h.snoc r
theorem RepKv.drop {m : List (List Int × D)} {kvs : List (List L2.Key × V)} {k : List Int} (h : RepKv K B kvs m) : RepKv K B (dropK kvs (ik k)) (dropI m k) := by
  unfold dropK dropI
  induction m generalizing kvs with
  | nil => cases h; exact .nil
  | cons p m ih =>
    obtain ⟨f, x⟩ := p
    cases h with
    | @cons _ y vs _ _ h1 h2 =>
      rw [List.filter_cons, List.filter_cons]
      by_cases e : f = k
      · subst e
        simp only [ne_eq, not_true_eq_false, decide_false, Bool.false_eq_true, if_false]
        exact ih h2
      · have e' : ¬ ik f = ik k := fun z => e (ik_inj z)
        simp only [ne_eq, e, e', not_false_eq_true, decide_true, if_true]
        exact .cons h1 (ih h2)
theorem RepKv.at {m : List (List Int × D)} {kvs : List (List L2.Key × V)} (h : RepKv K B kvs m) {i : Nat} {k : List L2.Key} {v : V} (e : kvs[i]? = some (k, v)) : ∃ f d, m[i]? = some (f, d) ∧ k = ik f ∧ Rep K B v d := by
  induction m generalizing kvs i with
  | nil => cases h; simp at e
  | cons p m ih =>
    cases h with
    | @cons f y vs d _ h1 h2 =>
      cases i with
      | zero =>
        have e' := Option.some.inj e
        injection e' with e1 e2
        exact ⟨f, d, rfl, e1.symm, e2 ▸ h1⟩
      | succ i => exact ih h2 (i := i) (by simpa using e)
end
/-- what holds the dict m: data, an own one, a locked one -/
inductive IsDic (mem : List Mc) : Vl → List (List Int × D) → Prop
  | dat {m : List (List Int × D)} : IsDic mem (.dat (.dic m)) m
  | own {n : Nat} {m : List (List Int × D)} : mem[n]? = some (.dic m) → IsDic mem (.own n) m
  | lk {m : List (List Int × D)} : IsDic mem (.lk m) m
section
variable {K : PySem.W.Frag} {ss ss1 ss2 : Sl} {mem m1 m2 m3 m4 : List Mc} {ta tb tc te td ty tx tv : TE} {i j : Int} {d e : D} {r r' x : Vl} {t u : TS} {out : Out} {k : List Int} {m : List (List Int × D)}
theorem dic_at {B H : Hp} {al : List Addr} {σ : L2.St} {v : V} (S : Sit K B H al σ ss mem) (hv : VlOk K B al v x) (h : IsDic mem x m) : ∃ a kvs, v = .ref a ∧ Rd H a (.dT kvs) ∧ RepKv K B kvs m := by
  cases h with
  | dat =>
    cases hv with
    | dic s r => exact ⟨_, _, rfl, sameRd S.sub s, r⟩
  | own hm =>
    obtain ⟨a, h1, rfl⟩ := hv
    obtain ⟨_, kvs, h2, h3⟩ := S.mem _ _ _ h1 hm
    exact ⟨a, kvs, rfl, .inl h2, h3⟩
  | lk =>
    obtain ⟨a, o, kvs, rfl, h2, h3⟩ := hv
    exact ⟨a, kvs, rfl, .inr ⟨o, S.sub _ _ h2⟩, h3⟩
theorem dic_get {B H : Hp} {al : List Addr} {σ : L2.St} {v w : V} (S : Sit K B H al σ ss mem) (hv : VlOk K B al v x) (h : IsDic mem x m) (hw : Rep K B w (rowD k)) :
    ∃ a o, v = .ref a ∧ DGet H a w o ∧ ((∃ y d, o = some y ∧ getI m k = some d ∧ Rep K B y d) ∨ (o = none ∧ getI m k = none)) := by
  obtain ⟨a, kvs, rfl, h1, h2⟩ := dic_at S hv h
  obtain ⟨b, rfl, h3⟩ := rep_key hw
  refine ⟨a, valV kvs (ik k), rfl, .inr ⟨kvs, ik k, b, h1, rfl, S.sub _ _ h3, rfl⟩, ?_⟩
  rcases h2.get k with ⟨y, d, e1, e2, e3⟩ | ⟨e1, e2⟩
  · exact .inl ⟨y, d, e1, e2, e3⟩
  · exact .inr ⟨e1, e2⟩
/-- {} -/
theorem dt_dnew : DT K tDNewT ss mem (.own mem.length) (mem ++ [.dic []]) := fun B H al σ Q S k p np => by
  have nb : B p = none := S.sub.free np
  obtain ⟨P, S'⟩ := S.layOwn (o := .dT []) (m := .dic []) np ⟨nb, _, upd_same, .nil⟩
  exact k _ _ _ _ P S' ⟨p, by rw [← S.mlen, List.getElem?_append_right (Nat.le_refl _), Nat.sub_self]; rfl, rfl⟩
/-- d[k] -/
theorem dt_dget (hd : DT K td ss mem x m1) (hy : DT K ty ss m1 (.dat (rowD k)) m2) (hm : IsDic m2 x m) (h : getI m k = some d) : DT K (tDGet td ty) ss mem (.dat d) m2 := fun B H al σ Q S q =>
  hd B H al σ _ S fun B1 H1 al1 v P1 S1 r1 => hy B1 H1 al1 σ _ S1 fun B2 H2 al2 w P2 S2 r2 => by
    obtain ⟨a, o, rfl, g, z⟩ := dic_get S2 (r1.step P2) hm r2
    rcases z with ⟨y, d', rfl, e2, e3⟩ | ⟨_, e2⟩
    · rw [h] at e2
      cases e2
      exact ⟨a, y, rfl, g, q _ _ _ _ (P1.trans P2) S2 e3⟩
    · rw [h] at e2
      cases e2
/-- k in d -/
theorem dt_din (hy : DT K ty ss mem (.dat (rowD k)) m1) (hd : DT K td ss m1 x m2) (hm : IsDic m2 x m) : DT K (tDIn ty td) ss mem (.dat (.bl (getI m k).isSome)) m2 := fun B H al σ Q S q =>
  hy B H al σ _ S fun B1 H1 al1 w P1 S1 r1 => hd B1 H1 al1 σ _ S1 fun B2 H2 al2 v P2 S2 r2 => by
    obtain ⟨a, o, rfl, g, z⟩ := dic_get S2 r2 hm (Rep.mono P2.same _ r1)
    refine ⟨a, o, rfl, g, ?_⟩
    have e : o.isSome = (getI m k).isSome := by
      rcases z with ⟨y, d', rfl, e2, _⟩ | ⟨rfl, e2⟩
      · rw [e2]; rfl
      · rw [e2]; rfl
    rw [e]
    exact q _ _ _ _ (P1.trans P2) S2 (.bl _)
theorem dt_dnotin (hy : DT K ty ss mem (.dat (rowD k)) m1) (hd : DT K td ss m1 x m2) (hm : IsDic m2 x m) : DT K (tDNotIn ty td) ss mem (.dat (.bl (!(getI m k).isSome))) m2 := fun B H al σ Q S q =>
  hy B H al σ _ S fun B1 H1 al1 w P1 S1 r1 => hd B1 H1 al1 σ _ S1 fun B2 H2 al2 v P2 S2 r2 => by
    obtain ⟨a, o, rfl, g, z⟩ := dic_get S2 r2 hm (Rep.mono P2.same _ r1)
    refine ⟨a, o, rfl, g, ?_⟩
    have e : o.isSome = (getI m k).isSome := by
      rcases z with ⟨y, d', rfl, e2, _⟩ | ⟨rfl, e2⟩
      · rw [e2]; rfl
      · rw [e2]; rfl
    rw [e]
    exact q _ _ _ _ (P1.trans P2) S2 (.bl _)
/-- d.get(k, z) -/
theorem dt_dget2 (hd : DT K td ss mem x m1) (hm1 : IsDic m1 x m) (hy : DT K ty ss m1 (.dat (rowD k)) m2) (hx : DT K tx ss m2 (.dat e) m3) (hm : IsDic m3 x m) : DT K (tDGet2 td ty tx) ss mem (.dat ((getI m k).getD e)) m3 := fun B H al σ Q S q =>
  hd B H al σ _ S fun B1 H1 al1 v P1 S1 r1 => by
    obtain ⟨a1, kv1, ev1, q1, _⟩ := dic_at S1 r1 hm1
    refine ⟨a1, ev1, .inr ⟨_, q1⟩, hy B1 H1 al1 σ _ S1 fun B2 H2 al2 w P2 S2 r2 => hx B2 H2 al2 σ _ S2 fun B3 H3 al3 z P3 S3 r3 => ?_⟩
    obtain ⟨a, o, ev, g, zz⟩ := dic_get S3 (r1.step (P2.trans P3)) hm (Rep.mono P3.same _ r2)
    have ea : a = a1 := by
      have e' := ev.symm.trans ev1
      injection e'
    subst ea
    refine ⟨o, g, ?_⟩
    rcases zz with ⟨y, d', rfl, e2, e3⟩ | ⟨rfl, e2⟩
    · rw [e2] at q
      exact q _ _ _ _ ((P1.trans P2).trans P3) S3 e3
    · rw [e2] at q
      exact q _ _ _ _ ((P1.trans P2).trans P3) S3 r3
/-- d[k] = v, d own -/
theorem ds_dput {n : Nat} (hv : DT K tv ss mem (.dat d) m1) (hd : DT K td ss m1 (.own n) m2) (hy : DT K ty ss m2 (.dat (rowD k)) m3) (hm : m3[n]? = some (.dic m)) (hl : m.length < 16777216) :
    DS K (sDPut td ty tv) ss mem (.nx ss (m3.set n (.dic (putI m k d)))) := fun B H al σ Dn S q =>
  hv B H al σ _ S fun B1 H1 al1 v P1 S1 r1 => hd B1 H1 al1 σ _ S1 fun B2 H2 al2 o P2 S2 r2 => hy B2 H2 al2 σ _ S2 fun B3 H3 al3 y P3 S3 r3 => by
    obtain ⟨a, a1, rfl⟩ := r2.step P3
    obtain ⟨b0, kvs, a2, a3⟩ := S3.mem n a _ a1 hm
    obtain ⟨b, rfl, h3⟩ := rep_key r3
    obtain ⟨P4, S4⟩ := S3.write (o := .dT (putK kvs (ik k) v)) (m := .dic (putI m k d)) a1 b0 ⟨b0, _, upd_same, a3.put (Rep.mono (P2.trans P3).same d r1)⟩
    exact ⟨a, _, rfl, DPut.t a2 (S3.sub _ _ h3) (by rw [a3.len, sizeLine_eq]; exact hl), q _ _ _ (((P1.trans P2).trans P3).trans P4) σ S4⟩
/-- an own dict at a slot becomes data, ahead of a statement -/
theorem Sit.frzDic {B H : Hp} {al : List Addr} {σ : L2.St} (S : Sit K B H al σ ss mem) {n : Nat} {v : V} (hv : VlOk K B al v (.own n)) (hm : mem[n]? = some (.dic m)) :
    ∃ B', Stp B H al B' H al ∧ Sit K B' H al σ ss (mem.set n .gone) ∧ Rep K B' v (.dic m) := by
  obtain ⟨a, a1, rfl⟩ := hv
  obtain ⟨b0, kvs, a2, a3⟩ := S.mem n a _ a1 hm
  obtain ⟨P, S'⟩ := S.freeze a1 b0 a2
  exact ⟨_, P, S', .dic (.inl upd_same) (RepKv.mono P.same _ a3)⟩
theorem dt_frzD {n : Nat} (h : DT K te ss mem (.own n) m1) (hm : m1[n]? = some (.dic m)) : DT K te ss mem (.dat (.dic m)) (m1.set n .gone) := fun B H al σ Q S k =>
  h B H al σ _ S fun B1 H1 al1 v P1 S1 r1 => by
    obtain ⟨B2, P2, S2, r2⟩ := S1.frzDic r1 hm
    exact k _ _ _ _ (P1.trans P2) S2 r2
theorem ds_frzD {n : Nat} (i : Nat) (hi : ss[i]? = some (some (.own n))) (hm : mem[n]? = some (.dic m)) (h : DS K t (ss.set i (some (.dat (.dic m)))) (mem.set n .gone) out) : DS K t ss mem out := fun B H al σ Dn S q => by
  obtain ⟨v, h1, h2⟩ := S.slot i _ hi
  obtain ⟨B1, P1, S1, r1⟩ := S.frzDic h2 hm
  have S2 : Sit K B1 H al σ (ss.set i (some (.dat (.dic m)))) (mem.set n .gone) := by
    refine ⟨S1.sub, by rw [List.length_set]; exact S1.len, fun j z e => ?_, S1.mlen, S1.mem, S1.nd, S1.there⟩
    by_cases hj : j = i
    · subst hj
      have hl : j < ss.length := (List.getElem?_eq_some_iff.mp hi).1
      rw [List.getElem?_set_self hl] at e
      have e' := Option.some.inj (Option.some.inj e)
      subst e'
      exact ⟨v, h1, r1⟩
    · rw [List.getElem?_set_ne (Ne.symm hj)] at e
      exact S1.slot j z e
  exact h B1 H al σ Dn S2 fun B2 H2 al2 P2 => q _ _ _ (P1.trans P2)
end
end DL
end
section
set_option Elab.async false
set_option linter.all false
set_option maxRecDepth 100000
/-! dicts that are walked: locked for the while -/
namespace DL
open PySem PySem.Spec PyProof.Rows L2
section
variable {K : PySem.W.Frag} {B B' : Hp}
theorem noRd {a : Addr} {u : HO} (h : B a = some u) (h1 : ∀ kvs, u ≠ .dT kvs) (h2 : ∀ o kvs, u ≠ .frz o (.dT kvs)) : ∀ kvs, ¬ Rd B a (.dT kvs) := fun kvs z => by
  rcases z with z | ⟨o, z⟩
  · rw [h] at z
    exact h1 kvs (Option.some.inj z)
  · rw [h] at z
    exact h2 o kvs (Option.some.inj z)
theorem Alike.L (e : Alike B B') {a : Addr} {xs : List V} (h : SqL K B a xs) : SqL K B' a xs := by
  rcases h with (h | ⟨o, h⟩) | h
  · exact .inl (.inl (e.oth _ _ (noRd h (fun _ z => by cases z) fun _ _ z => by cases z) h))
  · exact .inl (.inr ⟨o, e.oth _ _ (noRd h (fun _ z => by cases z) fun _ _ z => by cases z) h⟩)
  · exact .inr h
theorem Alike.T (e : Alike B B') {a : Addr} {xs : List V} (h : SqT K B a xs) : SqT K B' a xs := by
  rcases h with (h | ⟨o, h⟩) | h
  · exact .inl (.inl (e.oth _ _ (noRd h (fun _ z => by cases z) fun _ _ z => by cases z) h))
  · exact .inl (.inr ⟨o, e.oth _ _ (noRd h (fun _ z => by cases z) fun _ _ z => by cases z) h⟩)
  · exact .inr h
mutual
theorem Rep.alike (e : Alike B B') : ∀ (d : D) {v : V}, Rep K B v d → Rep K B' v d
  | .non, _, h => by cases h; exact .non
  | .bl b, _, h => by cases h; exact .bl b
  | .int i, _, h => by cases h; exact .int i
  | .str x, _, h => by cases h; exact .str x
  | .lst ds, _, h => by
    cases h with
    | lst s r => exact .lst (e.L s) (RepAll.alike e ds r)
  | .tup ds, _, h => by
    cases h with
    | tup s r => exact .tup (e.oth _ _ (noRd s (fun _ z => by cases z) fun _ _ z => by cases z) s) (RepAll.alike e ds r)
  | .ctp ds, _, h => by
    cases h with
    | ctp s r => exact .ctp (e.T s) (RepAll.alike e ds r)
  | .dic ds, _, h => by
    cases h with
    | dic s r => exact .dic (e.dic _ _ s) (RepKv.alike e ds r)
  | .rls ds, _, h => by
    cases h with
    | rls s r => exact .rls (e.oth _ _ (noRd s (fun _ z => by cases z) fun _ _ z => by cases z) s) (RepAll.alike e ds r)
  | .obj C gs, _, h => by
    cases h with
    | obj s r => exact .obj (e.oth _ _ (noRd s (fun _ z => by cases z) fun _ _ z => by cases z) s) (RepFs.alike e gs r)
theorem RepAll.alike (e : Alike B B') : ∀ (ds : List D) {vs : List V}, RepAll K B vs ds → RepAll K B' vs ds
  | [], _, h => by cases h; exact .nil
  | d :: ds, _, h => by
    cases h with
    | cons h1 h2 => exact .cons (Rep.alike e d h1) (RepAll.alike e ds h2)
theorem RepFs.alike (e : Alike B B') : ∀ (ds : List (Str × D)) {vs : List (Str × V)}, RepFs K B vs ds → RepFs K B' vs ds
  | [], _, h => by cases h; exact .nil
  | (f, d) :: ds, _, h => by
    cases h with
    | cons h1 h2 => exact .cons (Rep.alike e d h1) (RepFs.alike e ds h2)
theorem RepKv.alike (e : Alike B B') : ∀ (ds : List (List Int × D)) {vs : List (List L2.Key × V)}, RepKv K B vs ds → RepKv K B' vs ds
  | [], _, h => by cases h; exact .nil
  | (f, d) :: ds, _, h => by
    cases h with
    | cons h1 h2 => exact .cons (Rep.alike e d h1) (RepKv.alike e ds h2)
end
theorem alike_lock {a : Addr} {o : Obj} {kvs : List (List L2.Key × V)} (h : B a = some (.dT kvs)) : Alike B (upd B a (.frz o (.dT kvs))) := by
  refine ⟨fun b u n e => ?_, fun b ks n => ?_⟩
  · have hb : b ≠ a := fun z => n kvs (by rw [z]; exact .inl h)
    rw [upd_ne hb]
    exact e
  · by_cases hb : b = a
    · subst hb
      rcases n with n | ⟨o', n⟩
      · rw [h] at n
        cases n
        exact .inr ⟨o, upd_same⟩
      · rw [h] at n
        cases n
    · rcases n with n | ⟨o', n⟩
      · exact .inl (by rw [upd_ne hb]; exact n)
      · exact .inr ⟨o', by rw [upd_ne hb]; exact n⟩
theorem alike_unlock {a : Addr} {o : Obj} {kvs : List (List L2.Key × V)} (h : B a = some (.frz o (.dT kvs))) : Alike B (upd B a (.dT kvs)) := by
  refine ⟨fun b u n e => ?_, fun b ks n => ?_⟩
  · have hb : b ≠ a := fun z => n kvs (by rw [z]; exact .inr ⟨o, h⟩)
    rw [upd_ne hb]
    exact e
  · by_cases hb : b = a
    · subst hb
      rcases n with n | ⟨o', n⟩
      · rw [h] at n
        cases n
      · rw [h] at n
        cases n
        exact .inl upd_same
    · rcases n with n | ⟨o', n⟩
      · exact .inl (by rw [upd_ne hb]; exact n)
      · exact .inr ⟨o', by rw [upd_ne hb]; exact n⟩
end
section
variable {K : PySem.W.Frag} {ss ss1 ss2 : Sl} {mem m1 m2 m3 m4 : List Mc} {ta tb tc te td ty tx tv : TE} {i j : Int} {d e : D} {r r' x : Vl} {t u : TS} {out : Out} {k : List Int} {m : List (List Int × D)}
/-- the own objects, under a dict's lock that comes or goes -/
theorem McOk.alike {B H B' H' : Hp} {a c : Addr} {m : Mc} (e : Alike B B') (hn : B' a = none → H' a = H a) (h0 : B a = none → B' a = none) (h : McOk K B H a m) : McOk K B' H' a m := by
  cases m with
  | gone => trivial
  | lst ds =>
    obtain ⟨b0, xs, h3, h4⟩ := h
    exact ⟨h0 b0, xs, by rw [hn (h0 b0)]; exact h3, RepAll.alike e ds h4⟩
  | obj C fs =>
    obtain ⟨b0, dx, fv, h3, h4⟩ := h
    exact ⟨h0 b0, dx, fv, by rw [hn (h0 b0)]; exact h3, RepFs.alike e fs h4⟩
  | dic ds =>
    obtain ⟨b0, kv, h3, h4⟩ := h
    exact ⟨h0 b0, kv, by rw [hn (h0 b0)]; exact h3, RepKv.alike e ds h4⟩
  | gen φ =>
    obtain ⟨b0, kv, h3, h5, h4⟩ := h
    exact ⟨h0 b0, kv, by rw [hn (h0 b0)]; exact h3, h5, fun B2 f => h4 B2 (e.trans f)⟩
/-- slots with nothing said -/
theorem VlOk.alike {B B' : Hp} {al : List Addr} {v : V} (e : Alike B B') : ∀ {r : Vl}, (∀ m, r ≠ .lk m) → VlOk K B al v r → VlOk K B' al v r
  | .dat d, _, h => Rep.alike e d h
  | .own n, _, h => h
  | .tl ds, _, ⟨a, xs, h1, h2, h3⟩ => ⟨a, xs, h1, e.oth _ _ (noRd h2 (fun _ z => by cases z) fun _ _ z => by cases z) h2, RepAll.alike e ds h3⟩
  | .lk m, n, _ => absurd rfl (n m)
/-- no slot holds a locked dict -/
def NoLk (ss : Sl) : Prop := ∀ (i : Nat) (m : List (List Int × D)), ss[i]? ≠ some (some (Vl.lk m))
theorem Sit.lock {B H : Hp} {al : List Addr} {σ : L2.St} {i : Nat} {a : Addr} {o : Obj} {kvs : List (List L2.Key × V)} (S : Sit K B H al σ ss mem) (nl : NoLk ss) (hi : σ[i]? = some (some (.ref a))) (hb : B a = some (.dT kvs)) (r : RepKv K B kvs m) :
    Sit K (upd B a (.frz o (.dT kvs))) (upd H a (.frz o (.dT kvs))) al σ (ss.set i (some (.lk m))) mem := by
  have A := alike_lock (o := o) hb
  refine ⟨fun b u e => ?_, by rw [List.length_set]; exact S.len, fun j z e => ?_, S.mlen, fun n c q h1 h2 => ?_, S.nd, fun c h => ?_⟩
  · by_cases hb' : b = a
    · subst hb'
      rw [upd_same] at e ⊢
      exact e
    · rw [upd_ne hb'] at e ⊢
      exact S.sub b u e
  · by_cases hj : j = i
    · subst hj
      have hl : j < ss.length := by
        have := (List.getElem?_eq_some_iff.mp e).1
        rwa [List.length_set] at this
      rw [List.getElem?_set_self hl] at e
      have e' := Option.some.inj (Option.some.inj e)
      subst e'
      exact ⟨_, hi, a, o, kvs, rfl, upd_same, RepKv.alike A m r⟩
    · rw [List.getElem?_set_ne (Ne.symm hj)] at e
      obtain ⟨v, h1, h2⟩ := S.slot j z e
      exact ⟨v, h1, h2.alike A fun m' z' => nl j m' (by rw [e, z'])⟩
  · refine (S.mem n c q h1 h2).alike (c := a) A (fun z => ?_) fun z => ?_
    · by_cases hc : c = a
      · subst hc
        rw [upd_same] at z
        cases z
      · exact upd_ne hc
    · by_cases hc : c = a
      · subst hc
        rw [hb] at z
        cases z
      · rw [upd_ne hc]
        exact z
  · by_cases hc : c = a
    · subst hc
      rw [upd_same]
      exact fun z => nomatch z
    · rw [upd_ne hc]
      exact S.there c h
/-- behind the lock -/
theorem Sit.unlock {B H B' H' : Hp} {al al' : List Addr} {σ σ' : L2.St} {a : Addr} {o : Obj} {kvs : List (List L2.Key × V)} (S : Sit K B H al σ ss mem) (hb : B a = some (.dT kvs))
    (P : Stp (upd B a (.frz o (.dT kvs))) (upd H a (.frz o (.dT kvs))) al B' H' al') (S' : Sit K B' H' al' σ' ss1 m1) :
    B' a = some (.frz o (.dT kvs)) ∧ H' a = some (.frz o (.dT kvs)) ∧ Stp B H al (upd B' a (.dT kvs)) (upd H' a (.dT kvs)) al' ∧ Same (upd B' a (.dT kvs)) (upd H' a (.dT kvs)) ∧ Alike B' (upd B' a (.dT kvs)) ∧
    (∀ (n : Nat) (c : Addr) (q : Mc), al'[n]? = some c → m1[n]? = some q → McOk K (upd B' a (.dT kvs)) (upd H' a (.dT kvs)) c q) ∧ (∀ c ∈ al', (upd H' a (.dT kvs)) c ≠ none) := by
  have e1 : B' a = some (.frz o (.dT kvs)) := P.same _ _ upd_same
  have e2 : H' a = some (.frz o (.dT kvs)) := S'.sub _ _ e1
  have ha : H a = some (.dT kvs) := S.sub _ _ hb
  have A := alike_unlock e1
  refine ⟨e1, e2, ⟨fun b u e => ?_, fun b u e n => ?_, fun b h => ?_, fun b h => ?_, ?_⟩, fun b u e => ?_, A, fun n c q h1 h2 => ?_, fun c h => ?_⟩
  · by_cases h : b = a
    · subst h
      rw [upd_same]
      exact hb.symm.trans e
    · rw [upd_ne h]
      exact P.same b u (by rw [upd_ne h]; exact e)
  · by_cases h : b = a
    · subst h
      rw [upd_same]
      exact ha.symm.trans e
    · rw [upd_ne h]
      exact P.frame b u (by rw [upd_ne h]; exact e) n
  · by_cases h' : b = a
    · subst h'
      exact .inl (by rw [hb]; exact fun z => nomatch z)
    · rw [upd_ne h'] at h
      have z := P.fresh b h
      rw [upd_ne h', upd_ne h'] at z
      exact z
  · by_cases h' : b = a
    · subst h'
      rw [upd_same]
      exact fun z => nomatch z
    · rw [upd_ne h']
      exact P.stay b (by rw [upd_ne h']; exact h)
  · obtain ⟨ex, q, hx⟩ := P.ext
    refine ⟨ex, q, fun c h => ?_⟩
    have z := hx c h
    by_cases h' : c = a
    · subst h'
      rw [upd_same] at z
      cases z
    · rw [upd_ne h'] at z
      exact z
  · by_cases h : b = a
    · subst h
      rw [upd_same] at e ⊢
      exact e
    · rw [upd_ne h] at e ⊢
      exact S'.sub b u e
  · refine (S'.mem n c q h1 h2).alike (c := a) A (fun z => ?_) fun z => ?_
    · by_cases hc : c = a
      · subst hc
        rw [upd_same] at z
        cases z
      · exact upd_ne hc
    · by_cases hc : c = a
      · subst hc
        rw [e1] at z
        cases z
      · rw [upd_ne hc]
        exact z
  · by_cases hc : c = a
    · subst hc
      rw [upd_same]
      exact fun z => nomatch z
    · rw [upd_ne hc]
      exact S'.there c h
/-- under a lock of its own, or under one that stands -/
def tLkE (t : TE) : TE := fun σ H Q => tLockE t σ H Q ∨ t σ H Q
theorem pe_lk {X : Cx} {e : Expr} {t : TE} (h : PE X e t) : PE X e (tLkE t) := by
  refine ⟨fun pins s σ H Q I q => ?_⟩
  rcases q with q | q
  · exact (pe_lock h).run pins s σ H Q I q
  · exact h.run pins s σ H Q I q
def tLkS (t : TS) : TS := fun D σ H => tLock t D σ H ∨ t D σ H
theorem ps_lk {X : Cx} {st : Stmt} {t : TS} (h : PS X st t) : PS X st (tLkS t) := by
  refine ⟨fun pins s σ H D I q => ?_⟩
  rcases q with q | q
  · exact (ps_lock h).run pins s σ H D I q
  · exact h.run pins s σ H D I q
/-- the dict at slot i is locked while this runs -/
theorem dt_lk (i : Nat) (hi : ss[i]? = some (some (.dat (.dic m)))) (nl : NoLk ss) (hr : ∀ m', r ≠ .lk m') (h : DT K te (ss.set i (some (.lk m))) mem r m1) : DT K (tLkE te) ss mem r m1 := fun B H al σ Q S k => by
  obtain ⟨v, h1, h2⟩ := S.slot i _ hi
  cases h2 with
  | @dic a kvs _ s rk =>
    rcases s with s | ⟨o, s⟩
    · refine .inl ⟨a, .dT kvs, S.sub _ _ s, trivial, fun od => ?_⟩
      refine h _ _ al σ _ (S.lock nl h1 s rk) fun B' H' al' v' P S' rv => ?_
      obtain ⟨e1, e2, P', sub, A, hm, ht⟩ := S.unlock s P S'
      refine ⟨e2, k _ _ _ v' P' ⟨sub, S.len, fun j z e => ?_, S'.mlen, hm, S'.nd, ht⟩ (rv.alike A hr)⟩
      obtain ⟨w, w1, w2⟩ := S.slot j z e
      exact ⟨w, w1, w2.step P'⟩
    · refine .inr (h B H al σ _ ?_ fun B' H' al' v' P S' rv => k _ _ _ v' P (S.back P S') rv)
      refine ⟨S.sub, by rw [List.length_set]; exact S.len, fun j z e => ?_, S.mlen, S.mem, S.nd, S.there⟩
      by_cases hj : j = i
      · subst hj
        have hl : j < ss.length := (List.getElem?_eq_some_iff.mp hi).1
        rw [List.getElem?_set_self hl] at e
        have e' := Option.some.inj (Option.some.inj e)
        subst e'
        exact ⟨_, h1, a, o, kvs, rfl, s, rk⟩
      · rw [List.getElem?_set_ne (Ne.symm hj)] at e
        exact S.slot j z e
/-- k in the locked dict at slot i, its keys in their order -/
theorem di_keys {i : Nat} (hi : ss[i]? = some (some (.lk m))) : DI K (iKeys (tVar i)) ss mem m.length (fun j => rowD (m.getD j ([], .non)).1) mem := fun B H al σ R S k => by
  obtain ⟨v, h1, a, o, kvs, rfl, h2, h3⟩ := S.slot i _ hi
  refine ⟨.ref a, h1, a, o, rfl, .inr ⟨kvs, S.sub _ _ h2, k B H al _ (Stp.refl _ _ _) S fun B1 H1 al1 σ1 ss1 mem1 e1 S1 => ?_⟩⟩
  have h4 : H1 a = some (.frz o (.dT kvs)) := S1.sub _ _ (e1 _ _ h2)
  refine ⟨fun j hj => ⟨⟨h4, by rw [h3.len]; exact hj⟩, fun x H' y => ?_⟩, fun j hj => ⟨h4, by rw [h3.len]; exact hj⟩⟩
  obtain ⟨rfl, kk, w, q, y1, rfl, y2⟩ := y
  obtain ⟨f, d, z1, rfl, z3⟩ := h3.at y1
  have ef : (m.getD j ([], .non)).1 = f := by
    rw [List.getD_eq_getElem?_getD, z1]
    rfl
  show ∃ B', _ ∧ _ ∧ Rep K B' (.ref q) (rowD (m.getD j ([], D.non)).1)
  rw [ef]
  rcases Option.eq_none_or_eq_some (B1 q) with nq | ⟨u, nq⟩
  · -- the key's tuple is taken into the base
    have sB : Same B1 (upd B1 q (.tup ((ik f).map kV))) := fun b u' e => by rw [upd_ne (ne_of_none e nq)]; exact e
    have P : Stp B1 H' al1 (upd B1 q (.tup ((ik f).map kV))) H' al1 := by
      refine ⟨sB, fun b u' e _ => e, fun b h => ?_, fun b h => h, [], by rw [List.append_nil], fun _ h => by cases h⟩
      by_cases e : b = q
      · exact .inr (.inr (.inr ⟨_, by rw [e]; exact y2⟩))
      · rw [upd_ne e] at h
        exact .inl h
    refine ⟨_, P, ⟨fun b u' e => ?_, S1.len, fun l z e => ?_, S1.mlen, fun n c w' g1 g2 => ?_, S1.nd, S1.there⟩, key_rep upd_same⟩
    · by_cases hb : b = q
      · subst hb
        rw [upd_same] at e
        rw [← e]
        exact y2
      · rw [upd_ne hb] at e
        exact S1.sub b u' e
    · obtain ⟨v', v1, v2⟩ := S1.slot l z e
      exact ⟨v', v1, v2.step P⟩
    · have g := S1.mem n c w' g1 g2
      have hc : (∀ ys, H' c ≠ some (.tup ys)) → c ≠ q := fun ht z => ht _ (by rw [z]; exact y2)
      cases w' with
      | gone => trivial
      | lst ds =>
        obtain ⟨b0, xs, g3, g4⟩ := g
        exact ⟨by rw [upd_ne (hc fun ys z => by rw [g3] at z; cases z)]; exact b0, xs, g3, RepAll.mono sB ds g4⟩
      | obj C fs =>
        obtain ⟨b0, dx, fv, g3, g4⟩ := g
        exact ⟨by rw [upd_ne (hc fun ys z => by rw [g3] at z; cases z)]; exact b0, dx, fv, g3, RepFs.mono sB fs g4⟩
      | dic ds =>
        obtain ⟨b0, kv, g3, g4⟩ := g
        exact ⟨by rw [upd_ne (hc fun ys z => by rw [g3] at z; cases z)]; exact b0, kv, g3, RepKv.mono sB ds g4⟩
      | gen φ =>
        obtain ⟨b0, kv, g3, g5, g4⟩ := g
        exact ⟨by rw [upd_ne (hc fun ys z => by rw [g3] at z; exact g5 ys (Option.some.inj z))]; exact b0, kv, g3, g5, fun B2 f => g4 B2 ((Alike.of sB).trans f)⟩
  · have z := S1.sub _ _ nq
    rw [y2] at z
    cases z
    exact ⟨B1, Stp.refl _ _ _, S1, key_rep nq⟩
/-- within, the locked dict is read -/
theorem dt_varLk {i : Nat} (h : ss[i]? = some (some (.lk m))) : DT K (tVar i) ss mem (.dat (.dic m)) mem := fun B H al σ Q S k => by
  obtain ⟨v, h1, a, o, kvs, rfl, h2, h3⟩ := S.slot i _ h
  exact ⟨_, h1, k _ _ _ _ (Stp.refl _ _ _) S (.dic (.inr ⟨o, h2⟩) h3)⟩
/-- the slot of a locked dict, seen as data again -/
theorem Sit.unLk {B H : Hp} {al : List Addr} {σ : L2.St} {i : Nat} (S : Sit K B H al σ ss mem) (hi : ss[i]? = some (some (.lk m))) : Sit K B H al σ (ss.set i (some (.dat (.dic m)))) mem := by
  refine ⟨S.sub, by rw [List.length_set]; exact S.len, fun j z e => ?_, S.mlen, S.mem, S.nd, S.there⟩
  by_cases hj : j = i
  · subst hj
    have hl : j < ss.length := (List.getElem?_eq_some_iff.mp hi).1
    rw [List.getElem?_set_self hl] at e
    have e' := Option.some.inj (Option.some.inj e)
    subst e'
    obtain ⟨v, h1, a, o, kvs, rfl, h2, h3⟩ := S.slot j _ hi
    exact ⟨_, h1, .dic (.inr ⟨o, h2⟩) h3⟩
  · rw [List.getElem?_set_ne (Ne.symm hj)] at e
    exact S.slot j z e
theorem Sit.toLk {B H : Hp} {al : List Addr} {σ : L2.St} {i : Nat} {a : Addr} {o : Obj} {kvs : List (List L2.Key × V)} (S : Sit K B H al σ ss mem) (hi : ss[i]? = some (some (.dat (.dic m)))) (h1 : σ[i]? = some (some (.ref a))) (s : B a = some (.frz o (.dT kvs))) (rk : RepKv K B kvs m) :
    Sit K B H al σ (ss.set i (some (.lk m))) mem := by
  refine ⟨S.sub, by rw [List.length_set]; exact S.len, fun j z e => ?_, S.mlen, S.mem, S.nd, S.there⟩
  by_cases hj : j = i
  · subst hj
    have hl : j < ss.length := (List.getElem?_eq_some_iff.mp hi).1
    rw [List.getElem?_set_self hl] at e
    have e' := Option.some.inj (Option.some.inj e)
    subst e'
    exact ⟨_, h1, a, o, kvs, rfl, s, rk⟩
  · rw [List.getElem?_set_ne (Ne.symm hj)] at e
    exact S.slot j z e
theorem ds_lkN (i : Nat) (hi : ss[i]? = some (some (.dat (.dic m)))) (nl : NoLk ss) (hs : ss1[i]? = some (some (.lk m))) (nl1 : NoLk (ss1.set i (some (.dat (.dic m))))) (h : DS K t (ss.set i (some (.lk m))) mem (.nx ss1 m1)) :
    DS K (tLkS t) ss mem (.nx (ss1.set i (some (.dat (.dic m)))) m1) := fun B H al σ Dn S k => by
  obtain ⟨v, h1, h2⟩ := S.slot i _ hi
  cases h2 with
  | @dic a kvs _ s rk =>
    rcases s with s | ⟨o, s⟩
    · refine .inl ⟨a, .dT kvs, S.sub _ _ s, trivial, fun od => ?_⟩
      refine h _ _ al σ _ (S.lock nl h1 s rk) fun B' H' al' P σ' S' => ?_
      obtain ⟨e1, e2, P', sub, A, hm, ht⟩ := S.unlock s P S'
      refine ⟨e2, k _ _ _ P' σ' ⟨sub, by rw [List.length_set]; exact S'.len, fun j z e => ?_, S'.mlen, hm, S'.nd, ht⟩⟩
      obtain ⟨w, w1, w2⟩ := (S'.unLk hs).slot j z e
      exact ⟨w, w1, w2.alike A fun m' z' => nl1 j m' (by rw [e, z'])⟩
    · exact .inr (h B H al σ _ (S.toLk hi h1 s rk) fun B' H' al' P σ' S' => k _ _ _ P σ' (S'.unLk hs))
theorem ds_lkR (i : Nat) (hi : ss[i]? = some (some (.dat (.dic m)))) (nl : NoLk ss) (hr : ∀ m', r ≠ .lk m') (h : DS K t (ss.set i (some (.lk m))) mem (.rt r m1)) : DS K (tLkS t) ss mem (.rt r m1) := fun B H al σ Dn S k => by
  obtain ⟨v, h1, h2⟩ := S.slot i _ hi
  cases h2 with
  | @dic a kvs _ s rk =>
    rcases s with s | ⟨o, s⟩
    · refine .inl ⟨a, .dT kvs, S.sub _ _ s, trivial, fun od => ?_⟩
      refine h _ _ al σ _ (S.lock nl h1 s rk) fun B' H' al' P σ' ss' v' S' rv => ?_
      obtain ⟨e1, e2, P', sub, A, hm, ht⟩ := S.unlock s P S'
      refine ⟨e2, k _ _ _ P' σ' (ss'.map fun _ => none) v' ⟨sub, by rw [List.length_map]; exact S'.len, fun j z e => ?_, S'.mlen, hm, S'.nd, ht⟩ (rv.alike A hr)⟩
      rw [List.getElem?_map] at e
      cases q : ss'[j]? with
      | none => rw [q] at e; cases e
      | some y => rw [q] at e; cases e
    · exact .inr (h B H al σ _ (S.toLk hi h1 s rk) fun B' H' al' P => k _ _ _ P)
end
end DL
end
section
set_option Elab.async false
set_option linter.all false
set_option maxRecDepth 100000
/-! defs one of whose arguments, wherever it stands, is an own object that they may change -/
namespace DL
open PySem PySem.Spec PyProof.Rows L2
/-- as the callee sees the argument -/
def re0 : Vl → Vl
  | .own _ => .own 0
  | r => r
def oneR (R : List Vl → Mc → D → Mc → Prop) : Rel := fun args mem d mem' => ∃ m m', mem = [m] ∧ mem' = [m'] ∧ R args m d m'
abbrev spM (K : PySem.W.Frag) (n : Nat) (R : List Vl → Mc → D → Mc → Prop) : Sp := spD K n (oneR R)
/-- arguments of any kind -/
def DAV (K : PySem.W.Frag) (t : TA) (ss : Sl) (mem : List Mc) (rs : List Vl) (mem' : List Mc) : Prop :=
  ∀ (B H : Hp) (al : List Addr) (σ : L2.St) (Q : List V → Hp → Prop), Sit K B H al σ ss mem → (∀ B' H' al' vs, Stp B H al B' H' al' → Sit K B' H' al' σ ss mem' → VlsOk K B' al' vs rs → Q vs H') → t σ H Q
section
variable {K : PySem.W.Frag} {ss ss1 ss2 : Sl} {mem m1 m2 m3 m4 : List Mc} {ta tb tc te : TE} {i j : Int} {d e : D} {r r' : Vl} {t u : TS} {out : Out}
theorem dav_nil : DAV K tNil ss mem [] mem := fun B H al σ Q S k => k _ _ _ [] (Stp.refl _ _ _) S trivial
theorem dav_cons {t : TA} {rs : List Vl} (h1 : DT K ta ss mem r m1) (h2 : DAV K t ss m1 rs m2) : DAV K (tCons ta t) ss mem (r :: rs) m2 := fun B H al σ Q S k =>
  h1 B H al σ _ S fun B1 H1 al1 v P1 S1 r1 => h2 B1 H1 al1 σ _ S1 fun B2 H2 al2 vs P2 S2 r2 => k _ _ _ _ (P1.trans P2) S2 ⟨r1.step P2, r2⟩
theorem VlsOk.get {B : Hp} {al : List Addr} : ∀ {vs : List V} {rs : List Vl} {i : Nat} {r : Vl}, VlsOk K B al vs rs → rs[i]? = some r → ∃ v, vs[i]? = some v ∧ VlOk K B al v r
  | [], [], i, r, _, e => by simp at e
  | v :: vs, r :: rs, 0, q, h, e => ⟨v, rfl, Option.some.inj e ▸ h.1⟩
  | v :: vs, r :: rs, i + 1, q, h, e => VlsOk.get (i := i) h.2 (by simpa using e)
  | [], r :: rs, i, q, h, e => h.elim
  | v :: vs, [], i, q, h, e => h.elim
/-- f(..), one own object among the arguments -/
theorem dt_callM {n p : Nat} {R : List Vl → Mc → D → Mc → Prop} {E : XK} {t : TA} {rs : List Vl} {m m' : Mc} (h : DAV K t ss mem rs m1) (ho : ∀ q ∈ rs, (∃ d, q = .dat d) ∨ q = .own p) (hm : m1[p]? = some m) (hR : R (rs.map re0) m d m') (hn : rs.length = n := by rfl) :
    DT K (tCall (spM K n R) [] E t) ss mem (.dat d) (m1.set p m') := fun B H al σ Q S k =>
  h B H al σ _ S fun B1 H1 al1 vs P1 S1 rv => by
    have hp : p < al1.length := by
      rw [S1.mlen]
      exact (List.getElem?_eq_some_iff.mp hm).1
    have a1 : al1[p]? = some al1[p] := List.getElem?_eq_getElem hp
    generalize al1[p] = a at a1
    refine ⟨B1, [a], rs.map re0, [m], d, [m'], ⟨m, m', rfl, rfl, hR⟩, by rw [List.length_map]; exact hn, rfl, ?_, fun B' H' v P S' rd => ?_⟩
    · rw [List.append_nil]
      refine ⟨S1.sub, by simp only [List.length_map]; exact rv.len, fun i q e => ?_, rfl, fun l c w e1 e2 => ?_, List.pairwise_singleton _ _, fun c hc => ?_⟩
      · simp only [List.getElem?_map, Option.map_eq_some_iff] at e
        obtain ⟨_, ⟨q0, e0, rfl⟩, e2⟩ := e
        cases Option.some.inj e2
        obtain ⟨v, v1, v2⟩ := rv.get e0
        refine ⟨v, by rw [List.getElem?_map, v1]; rfl, ?_⟩
        rcases ho q0 (List.mem_of_getElem? e0) with ⟨d', rfl⟩ | rfl
        · exact v2
        · obtain ⟨x, x1, x2⟩ := v2
          exact ⟨a, rfl, by rw [x2, Option.some.inj (x1.symm.trans a1)]⟩
      · match l, e1, e2 with
        | 0, e1, e2 => exact Option.some.inj e1 ▸ Option.some.inj e2 ▸ S1.mem p a m a1 hm
      · exact List.mem_singleton.mp hc ▸ S1.there a (List.mem_of_getElem? a1)
    · obtain ⟨P2, S2⟩ := S1.after1 a1 P S'.sub (S'.mem 0 a m' rfl rfl)
      exact k _ _ _ _ (P1.trans P2) S2 rd
end
section
variable {P : Program} {w : World} {K : PySem.W.Frag} {mg : Str → Option Value} {base : Heap}
theorem fnM {x qual : Str} {st : Stmt} {f : Addr} {fd : FuncData} {N ps : List Str} {k n : Nat} {R : List Vl → Mc → D → Mc → Prop} (F : Fun K x qual st f fd) (S : FnScope N ps (defScope st)) (hp : ps.length = n)
    (hbody : ∀ (cdv : Value) (A : Around) (outer : List Env) (s : Shared) (H : Hp) (E : XK), Room k (A.deeper (envOfC qual (defScope st) s.heap.objs.size f cdv)) →
      ∃ t, PSs (cxOf CX0 P w K mg base N qual (defScope st) f cdv A outer s H E).nox (defBody st) t ∧
        ∀ args m d m', R args m d m' → args.length = n → Ends1 K t (args.map some ++ List.replicate (N.length - n) none) [m] d [m']) :
    FnOk P w K mg base CX0 (k + 1) f fd ps (spM K n R) := fn_ok F S hp fun cdv A outer s H E hr => by
  obtain ⟨t, ht, h⟩ := hbody cdv A outer s H E hr
  refine ⟨t, ht, fun args mem d mem' hR hn => ?_⟩
  obtain ⟨m, m', rfl, rfl, hR⟩ := hR
  exact h args m d m' hR hn
end
end DL
end
section
set_option Elab.async false
set_option linter.all false
set_option maxRecDepth 100000
/-! {k: v for ..} whose keys are tuples -/
namespace DL
open PySem PySem.Spec PyProof.Rows L2
section
variable {X : Cx}
/-- a store by the block itself, the key a tuple -/
theorem keep_tup {pins : List (Addr × Obj)} {σ : L2.St} {H : Hp} {s : Shared} {E : Value → Shared → Prop} {D b : Addr} {kvs : List (List L2.Key × V)} {k : List L2.Key} {v : V} {r : Value} {Q : Unit → Shared → Prop} (hu : X.A.units < cLine) (I : Inv X pins σ H s)
    (hD : H D = some (.dT kvs)) (hb : H b = some (.tup (k.map kV))) (fits : kvs.length < sizeLine) (rv : RelV v r) (h : ∀ s', Inv X pins σ (upd H D (.dT (putK kvs k v))) s' → Q () s') : wpAny (model X.prog X.w) X.A (dictSet D (.ref b) r) Q E s := by
  obtain ⟨-, low, xs, rel, dd⟩ := dt_of I.hok hD
  have few : xs.length ≤ sizeLine := Nat.le_of_lt (Paired.length rel ▸ fits)
  refine wpAny_dictSet_heap (hsz := few) hu (key_of I.hok hb) dd fun h' dd' but => h _ ?_
  obtain ⟨q, es, ep, there, ex, dat, ents, -, nd⟩ := dd'
  refine d_write (t' := s.toks + (tupleKind (mixKind X.prog X.w)).draws k) I (by rw [hD]; trivial) but ⟨q, there⟩
    ⟨Nat.le_trans (length_putK kvs k v) fits, low, _, (rel.put k hb rv).keeps fun c ys z => ?_, q, es, ep, there, ex, dat, ents, nd⟩
  exact (upd_ne (ne_of z hD fun e => nomatch e)).trans z
/-- what the block asks: a word W for the turns, the dict at a free place -/
def tDcT (wi : TI) (g : TG) (tt : TT) (tk tv : TE) (vs : List Nat) : TE := fun σ H Q => wi σ H fun J H1 => ∀ D, H1 D = none → ∃ W : Nat → Nat → Hp → Prop, (∃ m, W 0 m (upd H1 D (.dT []))) ∧
  ∀ i m H, W i m H → (J.stop i H ∧ Q (.ref D) H) ∨ (J.go i H ∧ ∃ Nx : Hp → Prop, (∀ H', Nx H' → ∃ m' < m, W (i + 1) m' H') ∧
    ∀ x H', J.yld i H x H' → g x (wipe σ vs) H' fun σ2 H2 => wipe σ2 vs = wipe σ vs ∧ tt σ2 H2 fun yes H3 =>
      if yes = true then tk σ2 H3 fun y H4 => tv σ2 H4 fun z H5 => ∃ kvs k b, y = .ref b ∧ H5 D = some (.dT kvs) ∧ H5 b = some (.tup (k.map kV)) ∧ kvs.length < sizeLine ∧ Nx (upd H5 D (.dT (putK kvs k z)))
      else Nx H3)
/-- the block, whatever is done with the dict behind it -/
theorem dcT_block {kx vx tg iter : Expr} {ifs : List Expr} {scope : Scope} {own : List (Str × Nat)} {pos : Pos} {wi : TI} {g : TG} {tt : TT} {tk tv : TE} {pos' : Pos} {use : Option (Value → Sem Unit)} {Qf : Value → Shared → Prop} {pins : List (Addr × Obj)} {s : Shared} {σ : L2.St} {H : Hp} {Q : VK}
    (hc : X.calm = true) (hN : X.N.Nodup) (hu : X.A.units < cLine) (hi : PI X tg iter wi) (ok : BlkOk X.N X.env.scope scope own)
    (inner : ∀ (s : Shared) (H : Hp) (C : Addr) (cl : List (Str × Addr)) (fp : List Addr), PG (X.blk s H scope (compEnvC scope cl C X.env) fp) tg g ∧ PTs (X.blk s H scope (compEnvC scope cl C X.env) fp) ifs tt ∧
      PE (X.blk s H scope (compEnvC scope cl C X.env) fp) kx tk ∧ PE (X.blk s H scope (compEnvC scope cl C X.env) fp) vx tv) (hs : ∀ x, foldedSetIterable iter X.env x = pure x) (I : Inv X pins σ H s) (want : tDcT wi g tt tk tv (own.map (·.2)) σ H Q)
    (hEnd : ∀ D C s' m H', Inv X pins σ H' s' → Q (.ref D) H' → s'.heap.Ns C m → FpOk X pins H' C → compPost (model X.prog X.w) X.A X.xe use Qf (.ref D) C (.ok .next) s') : wpAny (model X.prog X.w) X.A (comprehension (.DictComp kx vx [⟨tg, iter, ifs, 0⟩] scope pos) scope X.env pos' newDict false (eval iter X.env) use) Qf X.xe s := by
  have celled : ∀ y ∈ scope.names, y.2 = .free → ∃ c, X.env.cells.lookup y.1 = some c := fun y hy fr => (ok.free y hy fr).elim (fun z => I.ok.has _ (.inl z)) fun z => I.ok.has _ (.inr z)
  refine wpAny_comprehension_free (use := use) rfl hs (closure_ok celled) ok.kind (fun y hy lo => lo ▸ ok.uniq y hy) (thn (hi.run pins s σ H _ I want) fun _ sa came => thn came fun _ sb got => ?_)
  obtain ⟨it, ft, At, J, Hb, rfl, Ib, T, at0, free0, rest⟩ := got
  refine wpAny_newObj_type (newEnv_comp ?_)
  -- the dict, the block's own frame behind it
  have Ic : Inv X pins σ (upd Hb sb.heap.objs.size (.dT [])) { sb with heap := sb.heap.push { cls := .type "dict", data := .dict #[] } } :=
    Ib.laid (t' := sb.toks) (fun _ _ => Heap.get?_push_of_some _) (Nat.le_refl _) (dt_empty sb.heap Ib.big)
  have old : ∀ b ∈ ft, b < sb.heap.objs.size := fun b hb => let ⟨_, e, _⟩ := T.obj _ _ at0 b hb; Heap.lt_size e
  obtain ⟨W, ⟨m0, w0⟩, each⟩ := rest _ (Ib.hok.fresh (Nat.le_refl _))
  have free1 : ∀ b ∈ ft, FpOk X pins (upd Hb sb.heap.objs.size (.dT [])) b ∧ b < (sb.heap.push { cls := .type "dict", data := .dict #[] }).objs.size := fun b hb =>
    ⟨⟨(upd_ne (Nat.ne_of_lt (old b hb))).trans (free0 b hb).1, (free0 b hb).2⟩, by rw [Heap.size_push]; exact Nat.lt_succ_of_lt (old b hb)⟩
  have at1 : At 0 (sb.heap.push { cls := .type "dict", data := .dict #[] }) := T.keep _ _ _ at0 fun _ _ _ => Heap.get?_push_of_some _
  generalize sb.heap.objs.size = D at *
  generalize hc1 : ({ sb with heap := sb.heap.push { cls := .type "dict", data := .dict #[] } } : Shared) = sc at *
  have eh : sc.heap = sb.heap.push { cls := .type "dict", data := .dict #[] } := by rw [← hc1]
  rw [← eh] at free1 at1
  generalize upd Hb D (.dT []) = Hc at *
  have Id := block_start Ic ok hN free1
  have inr := inner sc Hc sc.heap.objs.size (cellsFrom (sc.heap.objs.size + 1) scope.names (cloFrom X.env.cells scope.names [])) ft
  change codeAny _ _ (.compStart _ 0 _ _ (compEnvC scope (cellsFrom (sc.heap.objs.size + 1) scope.names (cloFrom X.env.cells scope.names [])) sc.heap.objs.size X.env)) (compPost _ _ _ _ _ _ sc.heap.objs.size) _
  generalize hce : compEnvC scope (cellsFrom (sc.heap.objs.size + 1) scope.names (cloFrom X.env.cells scope.names [])) sc.heap.objs.size X.env = ce at Id inr ⊢
  have frame : ce.locals = sc.heap.objs.size := by subst hce; rfl
  have at2 : At 0 (pushCells (sc.heap.push { cls := .type "dict", data := .dict #[] }) scope.names) := T.keep _ _ _ at1 fun _ _ _ e => pushCells_keeps _ _ _ _ (Heap.get?_push_of_some _ e)
  have none1 : ∀ b ∈ ft, Hc b = none := fun b hb => (free1 b hb).1.1
  obtain ⟨pg, pt, pk, pv⟩ := inr
  -- the block's word
  have ours : ∀ {σ' : L2.St} {H' : Hp} {s' : Shared}, Inv (X.blk sc Hc scope ce ft) [] σ' H' s' → (∀ b ∈ ft, H' b = none) → ∀ b ∈ ft, FpOk (X.blk sc Hc scope ce ft) [] H' b := fun In nn b hb =>
    ⟨nn b hb, (In.ok.exf b hb).1, In.ok.exfs b hb, .inl hb, (In.ok.exf b hb).2, fun p hp => by cases hp⟩
  have loop : codeAny (model X.prog X.w) X.A (.compLoop (.DictComp kx vx [⟨tg, iter, ifs, 0⟩] scope pos) 0 (.ref it) (.ref D) ce) (compPost (model X.prog X.w) X.A X.xe use Qf (.ref D) sc.heap.objs.size)
      { sc with heap := pushCells (sc.heap.push { cls := .type "dict", data := .dict #[] }) scope.names } := by
    refine compLoop_anyD (fun n s' => ∃ i H', Inv (X.blk sc Hc scope ce ft) [] (wipe σ (own.map (·.2))) H' s' ∧ At i s'.heap ∧ (∀ b ∈ ft, H' b = none) ∧ W i n H') ?_ m0 ⟨0, Hc, Id, at2, none1, w0⟩
    rintro n sd ⟨i, He, Ie, ate, nonee, we⟩
    rcases each i n He we with ⟨stop, ready⟩ | ⟨go, Nx, next, turn⟩
    · refine thnF (T.done (X.blk sc Hc scope ce ft) rfl rfl rfl hc i [] sd _ He (fun _ _ => False) Ie (ours Ie nonee) ate stop) fun r sf ⟨hr, If⟩ => ?_
      subst hr
      have Ig : Inv X pins σ He sf := Ic.call' (ch := ft) If.os If.base If.hok If.bare fun b hb => let f := (free1 b hb).1; ⟨f.2.2.2.1, f.2.1, f.2.2.2.2.1, f.2.2.2.2.2⟩
      have noFrame : He sc.heap.objs.size = none := frame ▸ (show He ce.locals = none from If.free)
      obtain ⟨m, ns, -⟩ := If.loc
      exact hEnd D sc.heap.objs.size sf m He Ig ready (frame ▸ ns) (Ic.fpOk (Nat.le_refl _) noFrame)
    · refine thnF (T.item (X.blk sc Hc scope ce ft) rfl rfl rfl hc i [] sd _ He (fun _ _ => False) Ie (ours Ie nonee) ate go) fun r sf ⟨u, hr, more⟩ => ?_
      subst hr
      refine thnF more fun _ sg ⟨x, Hg, Ig, rx, yld, atg, noneg⟩ => ?_
      have Ip := Ig.pinned (ours Ig noneg) (T.obj _ _ atg)
      refine thnF (pg.run _ sg _ Hg x u _ Ip rx (turn x Hg yld)) fun _ sh ⟨σh, Hh, Ih, wiped, qh⟩ => ?_
      have again : ∀ {s' : Shared} {H' : Hp}, Inv (X.blk sc Hc scope ce ft) ([] ++ pinsAt ft sg.heap) σh H' s' → Nx H' → ∃ m < n, ∃ i H', Inv (X.blk sc Hc scope ce ft) [] (wipe σ (own.map (·.2))) H' s' ∧ At i s'.heap ∧ (∀ b ∈ ft, H' b = none) ∧ W i m H' := fun {s' H'} In nx => by
        obtain ⟨m', less, w'⟩ := next H' nx
        have still : ∀ b ∈ ft, ∀ o, sg.heap.get? b = some o → s'.heap.get? b = some o ∧ H' b = none := fun b hb o e =>
          let z := In.pin (b, o) (List.mem_append_right _ (List.mem_append_right _ (mem_pinsAt hb e))); ⟨z.1, z.2.1⟩
        refine ⟨m', less, i + 1, H', (In.unpinned (pins := [])).weak (by rw [← wiped, wipe_length]) (fun j v e => (wipe_some (wiped ▸ e)).1), T.keep _ _ _ atg fun b hb o e => (still b hb o e).1, fun b hb => ?_, w'⟩
        obtain ⟨o, e, -⟩ := T.obj _ _ atg b hb
        exact (still b hb o e).2
      refine thnF (pt.run _ sh σh Hh _ Ih qh) fun yes si ⟨Hi, Ii, qi⟩ => ?_
      cases yes with
      | false => exact again Ii (by simpa using qi)
      | true =>
        refine thnF (pk.run _ si σh Hi _ Ii (by simpa using qi)) fun kv sj got => ?_
        obtain ⟨yk, Hj, Ij, rk, qj⟩ := got
        refine thnF (pv.run _ sj σh Hj _ Ij qj) fun vv sk ⟨yv, Hk, Ik, rv, kvs, k, b, ek, hD, hb, fits, nx⟩ => ?_
        subst ek
        cases rk
        exact keep_tup (X := X.blk sc Hc scope ce ft) hu Ik hD hb fits rv fun sl Il => again Il nx
  exact codeAny_compStart_dict loop (T.self X.A 0 _ _ _ at2 loop)
theorem pe_dcT {kx vx tg iter : Expr} {ifs : List Expr} {scope : Scope} {own : List (Str × Nat)} {pos : Pos} {wi : TI} {g : TG} {tt : TT} {tk tv : TE} (hc : X.calm = true) (hN : X.N.Nodup) (hu : X.A.units < cLine) (hi : PI X tg iter wi) (ok : BlkOk X.N X.env.scope scope own)
    (inner : ∀ (s : Shared) (H : Hp) (C : Addr) (cl : List (Str × Addr)) (fp : List Addr), PG (X.blk s H scope (compEnvC scope cl C X.env) fp) tg g ∧ PTs (X.blk s H scope (compEnvC scope cl C X.env) fp) ifs tt ∧
      PE (X.blk s H scope (compEnvC scope cl C X.env) fp) kx tk ∧ PE (X.blk s H scope (compEnvC scope cl C X.env) fp) vx tv) (hs : ∀ x, foldedSetIterable iter X.env x = pure x := by intro _; rfl) :
    PE X (.DictComp kx vx [⟨tg, iter, ifs, 0⟩] scope pos) (tDcT wi g tt tk tv (own.map (·.2))) := ⟨fun pins s σ H Q I want => by
  rw [arm_eval_DictComp]
  refine dcT_block (use := none) hc hN hu hi ok inner hs I want fun D C s' m H' I' q ns f => ⟨m, ns, fun h'' but => ?_⟩
  exact ⟨.ref D, H', I'.turned (t' := s'.toks) (fun b o nb e => (but.2 b nb).trans e) f.1 f.2.1 f.2.2.2.1 f.2.2.2.2.1 f.2.2.2.2.2, rfl, q⟩⟩
/-- x = {..} on one line, x a local name: stored ahead of the block's end -/
theorem ps_setDcT {i : Nat} {y : Str} {py spos : Pos} {kx vx tg iter : Expr} {ifs : List Expr} {scope : Scope} {own : List (Str × Nat)} {pos : Pos} {wi : TI} {g : TG} {tt : TT} {tk tv : TE} (hy : X.N[i]? = some y) (hyl : X.env.scope.names.lookup y = some .local) (hsw : swapsWith (.DictComp kx vx [⟨tg, iter, ifs, 0⟩] scope pos) (some (.Name y py)) spos.line X.env = pure true)
    (hc : X.calm = true) (hN : X.N.Nodup) (hu : X.A.units < cLine) (hi : PI X tg iter wi) (ok : BlkOk X.N X.env.scope scope own)
    (inner : ∀ (s : Shared) (H : Hp) (C : Addr) (cl : List (Str × Addr)) (fp : List Addr), PG (X.blk s H scope (compEnvC scope cl C X.env) fp) tg g ∧ PTs (X.blk s H scope (compEnvC scope cl C X.env) fp) ifs tt ∧
      PE (X.blk s H scope (compEnvC scope cl C X.env) fp) kx tk ∧ PE (X.blk s H scope (compEnvC scope cl C X.env) fp) vx tv) (hs : ∀ x, foldedSetIterable iter X.env x = pure x := by intro _; rfl) :
    PS X (.Assign [.Name y py] (.DictComp kx vx [⟨tg, iter, ifs, 0⟩] scope pos) spos) (tAsg (tDcT wi g tt tk tv (own.map (·.2))) (gName i)) := ⟨fun pins s σ H E I want => by
  rw [exec_Assign_Name_used _ _ _ _ hsw]
  refine wpAny_bind (wpAny_standAt (wpAny_bind ?_))
  show wpAny _ X.A (comprehension (.DictComp kx vx [⟨tg, iter, ifs, 0⟩] scope pos) scope X.env (firstIterPos [⟨tg, iter, ifs, 0⟩] pos) newDict false (eval iter X.env) (some (assign (.Name y py) X.env)) >>= _) _ _ s
  have want' : tDcT wi g tt tk tv (own.map (·.2)) σ H (fun x H1 => gName i x σ H1 E.nx) := want
  refine wpAny_bind (thn (dcT_block (Qf := fun _ s' => SP X pins E .next s') hc hN hu hi ok inner hs I want' fun D C s' m H' I' q ns f => ?_) fun _ s' z => wpAny_pure (wpAny_pure z))
  show wpAny _ _ (assign (.Name y py) X.env (.ref D)) _ _ _
  refine wpAny_assign_Name (store_ok2 (v := V.ref D) I' hN hy (.inl hyl) rfl (fun s2 I2 kept => ?_) (.inr hyl))
  obtain ⟨a, but, at_⟩ := kept
  have apart : C ≠ a := fun e => at_.elim (fun z => f.2.1 (e.trans z)) fun z => f.2.2.2.2.1 y a z e.symm
  exact ⟨m, ns.sameBut but apart, fun h3 but3 => ⟨_, H', I2.turned (t' := s2.toks) (fun b o nb e => (but3.2 b nb).trans e) f.1 f.2.1 f.2.2.2.1 f.2.2.2.2.1 f.2.2.2.2.2, q⟩⟩⟩
theorem swD_true {kx vx : Expr} {gs : List Comprehension} {scope : Scope} {pos py : Pos} {y : Str} {l : Nat} {env : Env} (fn : env.scope.kind = .function) (hy : env.scope.names.lookup y = some .local) (hl : (py.line == pos.line) = true)
    (no : (scope.names.any fun (n, k) => n == y && (k == .local || k == .cell)) = false) : swapsWith (.DictComp kx vx gs scope pos) (some (.Name y py)) l env = pure true := by
  have k1 : env.blockKind = .function := by simp [Env.blockKind, fn]
  have k2 : env.kindOf y = some .local := hy
  simp only [swapsWith, k1, k2, Expr.pos, hl, no]
  rfl
end
end DL
end
section
set_option Elab.async false
set_option linter.all false
set_option maxRecDepth 100000
/-! dict comprehensions, said of data -/
namespace DL
open PySem PySem.Spec PyProof.Rows L2
/-- an object that stands beside the situation -/
structure Beside (B H : Hp) (al : List Addr) (p : Addr) (o : HO) : Prop where
  at_ : H p = some o
  nb : B p = none
  nal : p ∉ al
section
variable {K : PySem.W.Frag} {ss ss1 ss2 : Sl} {mem m1 m2 m3 m4 : List Mc} {ta tb tc te tk tv : TE} {i j : Int} {d e : D} {r r' : Vl} {t u : TS} {out : Out}
theorem Beside.step {B H B' H' : Hp} {al al' : List Addr} {p : Addr} {o : HO} (s : Beside B H al p o) (nt : ∀ xs, o ≠ .tup xs) (P : Stp B H al B' H' al') : Beside B' H' al' p o where
  at_ := P.frame _ _ s.at_ s.nal
  nb := Decidable.byContradiction fun z => by
    rcases P.fresh p z with y | y | y | ⟨xs, y⟩
    · exact y s.nb
    · rw [s.at_] at y
      cases y
    · exact s.nal y
    · rw [s.at_] at y
      exact nt xs (Option.some.inj y)
  nal z := by
    obtain ⟨ex, q, hx⟩ := P.ext
    rw [q] at z
    refine (List.mem_append.mp z).elim s.nal fun y => ?_
    have := hx p y
    rw [s.at_] at this
    cases this
theorem McOk.frame {B H H' : Hp} {a : Addr} {m : Mc} (e : H' a = H a) (h : McOk K B H a m) : McOk K B H' a m := by
  cases m <;> simp only [McOk, e] at h ⊢ <;> exact h
theorem McOk.grow {B B' H : Hp} {a : Addr} {m : Mc} (sm : Same B B') (e : B' a = B a) (h : McOk K B H a m) : McOk K B' H a m := by
  cases m with
  | gone => trivial
  | lst ds => exact ⟨e.trans h.1, h.2.imp fun xs z => ⟨z.1, RepAll.mono sm ds z.2⟩⟩
  | obj C fs =>
    obtain ⟨h0, dx, fv, h3, h4⟩ := h
    exact ⟨e.trans h0, dx, fv, h3, RepFs.mono sm fs h4⟩
  | dic ds => exact ⟨e.trans h.1, h.2.imp fun xs z => ⟨z.1, RepKv.mono sm ds z.2⟩⟩
  | gen φ =>
    obtain ⟨h0, o, h3, h5, h4⟩ := h
    exact ⟨e.trans h0, o, h3, h5, fun B2 f => h4 B2 ((Alike.of sm).trans f)⟩
theorem Sit.beside {B H : Hp} {al : List Addr} {σ : L2.St} {p : Addr} (S : Sit K B H al σ ss mem) (nb : B p = none) (nal : p ∉ al) (o : HO) : Sit K B (upd H p o) al σ ss mem :=
  have na : ∀ a ∈ al, a ≠ p := fun a h z => nal (z ▸ h)
  ⟨fun b u e => (upd_ne (ne_of_none e nb)).trans (S.sub b u e), S.len, S.slot, S.mlen, fun n a m h1 h2 => (S.mem n a m h1 h2).frame (upd_ne (na a (List.mem_of_getElem? h1))), S.nd, fun a h => by
    rw [upd_ne (na a h)]
    exact S.there a h⟩
/-- it becomes data -/
theorem Sit.besideData {B0 H0 B H : Hp} {al0 al : List Addr} {σ : L2.St} {p : Addr} {o : HO} (S : Sit K B H al σ ss mem) (P : Stp B0 H0 al0 B H al) (s : Beside B H al p o) (np : H0 p = none) :
    Stp B0 H0 al0 (upd B p o) H al ∧ Sit K (upd B p o) H al σ ss mem ∧ Same B (upd B p o) := by
  have sB : Same B (upd B p o) := fun b u e => by rw [upd_ne (ne_of_none e s.nb)]; exact e
  refine ⟨⟨P.same.trans sB, P.frame, fun b h => ?_, P.stay, P.ext⟩, ⟨fun b u e => ?_, S.len, fun i r e => ?_, S.mlen, fun n a m h1 h2 => ?_, S.nd, S.there⟩, sB⟩
  · by_cases z : b = p
    · exact .inr (.inl (z ▸ np))
    · exact P.fresh b (by rw [upd_ne z] at h; exact h)
  · by_cases z : b = p
    · subst z
      rw [upd_same] at e
      exact s.at_.trans e
    · exact S.sub b u (by rw [upd_ne z] at e; exact e)
  · obtain ⟨v, h1, h2⟩ := S.slot i r e
    refine ⟨v, h1, ?_⟩
    cases r with
    | dat d => exact Rep.mono sB d h2
    | own n => exact h2
    | tl ds => exact h2.imp fun a z => z.imp fun xs y => ⟨y.1, sB _ _ y.2.1, RepAll.mono sB ds y.2.2⟩
    | lk ds =>
      obtain ⟨a, o', kvs, z1, z2, z3⟩ := h2
      exact ⟨a, o', kvs, z1, sB _ _ z2, RepKv.mono sB ds z3⟩
  · exact (S.mem n a m h1 h2).grow sB (upd_ne fun z => s.nal (z ▸ List.mem_of_getElem? h1))
/-- one turn of a dict comprehension -/
def DcTurn (K : PySem.W.Frag) (g : TG) (tt : TT) (tk tv : TE) (vs : List Nat) (s0 : Sl) (d : D) (acc : List (List Int × D)) (m : List Mc) (acc' : List (List Int × D)) (m' : List Mc) : Prop :=
  ∃ s1 ws, DG K g (wipeS s0 vs) d s1 ws ∧ (∀ w ∈ ws, w ∈ vs) ∧ ((∃ ma mb k x, DB K tt s1 m true ma ∧ DT K tk s1 ma (.dat (rowD k)) mb ∧ DT K tv s1 mb (.dat x) m' ∧ acc' = putI acc k x) ∨ (DB K tt s1 m false m' ∧ acc' = acc))
/-- {k: v for ..}, as data -/
theorem dt_dc {wi : TI} {g : TG} {tt : TT} {vs : List Nat} {n : Nat} {it : Nat → D} (hi : DI K wi ss mem n it m1) (acc : Nat → List (List Int × D)) (m : Nat → List Mc) (a0 : acc 0 = []) (m0 : m 0 = m1) (hlen : ∀ i, i < n → (acc i).length < 16777216)
    (step : ∀ i, i < n → DcTurn K g tt tk tv vs ss (it i) (acc i) (m i) (acc (i + 1)) (m (i + 1))) : DT K (tDcT wi g tt tk tv vs) ss mem (.dat (.dic (acc n))) (m n) := fun B H al σ Q S fin =>
  hi B H al σ _ S fun B1 H1 al1 J P1 S1 wk p np => by
    have nb : B1 p = none := S1.sub.free np
    have nal : p ∉ al1 := fun h => S1.there p h np
    refine ⟨fun i k H' => k = n - i ∧ i ≤ n ∧ ∃ B' al' kvs, Stp B1 H1 al1 B' H' al' ∧ Sit K B' H' al' σ ss (m i) ∧ Beside B' H' al' p (.dT kvs) ∧ RepKv K B' kvs (acc i),
      ⟨n, by omega, Nat.zero_le _, B1, al1, [], (Stp.refl _ _ _).poke np, m0 ▸ S1.beside nb nal _, ⟨upd_same, nb, nal⟩, a0 ▸ .nil⟩, ?_⟩
    rintro i _ H' ⟨rfl, le, B', al', kvs, P', S', side, ra⟩
    obtain ⟨w1, w2⟩ := wk B' H' al' (wipe σ vs) _ _ P'.same (S'.wipe vs)
    by_cases lt : i < n
    · obtain ⟨go, yl⟩ := w1 i lt
      obtain ⟨s1, ws, dg, hws, turn⟩ := step i lt
      refine .inr ⟨go, fun H2 => ∃ B' al' kvs, Stp B1 H1 al1 B' H2 al' ∧ Sit K B' H2 al' σ ss (m (i + 1)) ∧ Beside B' H2 al' p (.dT kvs) ∧ RepKv K B' kvs (acc (i + 1)), fun H2 w => ⟨n - (i + 1), by omega, rfl, lt, w⟩, fun x H2 y => ?_⟩
      obtain ⟨B2, P2, S2, r2⟩ := yl x H2 y
      refine dg B2 H2 al' _ _ x _ S2 r2 fun σ3 S3 hwp => ⟨?_, ?_⟩
      · rw [hwp vs hws]
        refine List.ext_getElem? fun j => ?_
        by_cases hj : j ∈ vs
        · rw [wipe_in hj, wipe_in hj, wipe_length]
        · rw [wipe_out hj]
      · have nt : ∀ xs, HO.dT kvs ≠ .tup xs := fun _ z => nomatch z
        rcases turn with ⟨ma, mb, k, x, db, dk, dv, ea⟩ | ⟨db, ea⟩
        · refine db B2 H2 al' σ3 _ S3 fun B4 H4 al4 P4 S4 => iteT (dk B4 H4 al4 σ3 _ S4 fun B5 H5 al5 kv P5 S5 r5 => dv B5 H5 al5 σ3 _ S5 fun B6 H6 al6 v P6 S6 r6 => ?_)
          have PP := ((P2.trans P4).trans P5).trans P6
          have sd := side.step nt PP
          obtain ⟨b, rfl, kb⟩ := rep_key r5
          have kb6 := S6.sub _ _ (P6.same _ _ kb)
          refine ⟨kvs, ik k, b, rfl, sd.at_, kb6, by rw [ra.len, sizeLine_eq]; exact hlen i lt, B6, al6, _, (P'.trans PP).poke np, (S'.back PP S6).beside sd.nb sd.nal _, ⟨upd_same, sd.nb, sd.nal⟩, ?_⟩
          rw [ea]
          exact (RepKv.mono PP.same _ ra).put r6
        · refine db B2 H2 al' σ3 _ S3 fun B4 H4 al4 P4 S4 => iteF ?_
          have PP := P2.trans P4
          exact ⟨B4, al4, kvs, P'.trans PP, S'.back PP S4, side.step nt PP, ea ▸ RepKv.mono PP.same _ ra⟩
    · have ei : i = n := by omega
      subst ei
      obtain ⟨P2, S2, sB⟩ := S'.besideData P' side np
      exact .inl ⟨w2 _ (Nat.le_refl _), fin _ _ _ _ (P1.trans P2) S2 (.dic (.inl upd_same) (RepKv.mono sB _ ra))⟩
/-- no test, nothing else touched, the keys apart -/
theorem dt_dcMap {wi : TI} {g : TG} {vs : List Nat} {n : Nat} {it : Nat → D} (hi : DI K wi ss mem n it m1) (key : Nat → List Int) (val : Nat → D) (acc : Nat → List (List Int × D)) (a0 : acc 0 = []) (as : ∀ i, i < n → acc (i + 1) = putI (acc i) (key i) (val i)) (hn : n ≤ 16777216)
    (step : ∀ i, i < n → ∃ s1 ws, DG K g (wipeS ss vs) (it i) s1 ws ∧ (∀ w ∈ ws, w ∈ vs) ∧ DT K tk s1 m1 (.dat (rowD (key i))) m1 ∧ DT K tv s1 m1 (.dat (val i)) m1) : DT K (tDcT wi g tYes tk tv vs) ss mem (.dat (.dic (acc n))) m1 := by
  have putLe : ∀ (q : List (List Int × D)) k x, (putI q k x).length ≤ q.length + 1 := fun q k x => by
    unfold putI
    split <;> simp
  have len : ∀ i, i ≤ n → (acc i).length ≤ i := fun i => by
    induction i with
    | zero => intro; rw [a0]; exact Nat.le_refl _
    | succ i ih =>
      intro h
      rw [as i h]
      exact Nat.le_trans (putLe _ _ _) (Nat.succ_le_succ (ih (Nat.le_of_succ_le h)))
  exact dt_dc (tt := tYes) hi acc (fun _ => m1) a0 rfl (fun i h => by have := len i (Nat.le_of_lt h); omega) fun i h => by
    obtain ⟨s1, ws, a, b, c, dd⟩ := step i h
    exact ⟨s1, ws, a, b, .inl ⟨m1, m1, key i, val i, db_yes, c, dd, as i h⟩⟩
end
end DL
end
section
set_option Elab.async false
set_option linter.all false
set_option maxRecDepth 100000
/-! dicts with tuple keys: pop(k), dict(pairs) -/
namespace DL
open PySem PySem.Spec PyProof.Rows L2
section
variable {X : Cx}
def rPop1T : V → List V → Hp → VK → Prop := fun x xs H Q => ∃ (a : Addr) (kvs : List (List L2.Key × V)) (k : List L2.Key) (b : Addr) (v : V), x = .ref a ∧ xs = [.ref b] ∧ H a = some (.dT kvs) ∧ H b = some (.tup (k.map kV)) ∧ valV kvs k = some v ∧ Q v (upd H a (.dT (dropK kvs k)))
theorem mt_pop1T (hu : X.A.units + 1 < cLine) : MtR X "dict.pop" rPop1T := by
  rintro pins s σ H x xs0 v0 us Q I rx rel ⟨a, kvs, k, b, v, rfl, rfl, inD, key, val, fin⟩
  obtain ⟨_, rfl, rk⟩ := rel.one
  cases rk
  cases rx
  obtain ⟨z, low, xs, kt, dd⟩ := dt_of I.hok inD
  obtain ⟨u, eu, ru⟩ := RelO.some_of (v := v) (o := (atKey xs k).map (·.2)) (by rw [← val]; exact kt.val k)
  obtain ⟨p, hp, rfl⟩ := Option.map_eq_some_iff.mp eu
  refine call_pop_heap (more := []) (.inl rfl) (PySem.F.args_dict_pop_2 _ _) (tupleKind_room_in1 hu) (key_of I.hok key) low dd hp (fun h' d' but => ?_) (Paired.length kt ▸ z)
  obtain ⟨q, es, ep, at0, ex, dat, ents, -, nd⟩ := d'
  have obj : ObjOk X.prog X.w (upd H a (.dT (dropK kvs k))) h' a (.dT (dropK kvs k)) :=
    ⟨Nat.le_trans (dropK_le kvs k) z, low, _, (L2.DX.KT_drop k kt).keeps fun c ys y => (upd_ne (ne_of y inD fun e => nomatch e)).trans y, q, es, ep, at0, ex, dat, ents, nd⟩
  exact ⟨v, _, d_write (t' := _) I (by rw [inD]; trivial) but ⟨q, at0⟩ obj, ru, fin⟩
/-- one after the other, a later one in an earlier one's place -/
def putAll (acc kvs : List (List L2.Key × V)) : List (List L2.Key × V) := kvs.foldl (fun c p => putK c p.1 p.2) acc
theorem putAll_len : ∀ (kvs acc : List (List L2.Key × V)), (putAll acc kvs).length ≤ acc.length + kvs.length
  | [], acc => Nat.le_refl _
  | p :: kvs, acc => by
    have h := putAll_len kvs (putK acc p.1 p.2)
    have g := length_putK acc p.1 p.2
    show (putAll (putK acc p.1 p.2) kvs).length ≤ acc.length + (kvs.length + 1)
    omega
theorem KT.putAll {H : Hp} : ∀ {kvs : List (List L2.Key × V)} {xs : List (List L2.Key × Addr × Value)}, KT H kvs xs → ∀ {acc : List (List L2.Key × V)} {ys : List (List L2.Key × Addr × Value)}, KT H acc ys → KT H (DL.putAll acc kvs) (storedAllH ys xs)
  | [], _, r, acc, ys, g => by cases r; exact g
  | p :: kvs, _, r, acc, ys, g => by
    cases r with
    | @cons _ x _ xs h t =>
      obtain ⟨k, v⟩ := p
      obtain ⟨k', b, u⟩ := x
      obtain ⟨e, hb, ru⟩ := h
      cases e
      exact KT.putAll t (L2.KT.put g k hb ru)
def rDictPrT (K : PySem.W.Frag) : List V → Hp → VK → Prop := fun xs H Q => ∃ (l : Addr) (ps : List Addr) (bs : List Addr) (kvs : List (List L2.Key × V)), xs = [.ref l] ∧ SqL K H l (ps.map V.ref) ∧ ps.length = kvs.length ∧ bs.length = kvs.length ∧
  (∀ (j : Nat) p b k v, ps[j]? = some p → bs[j]? = some b → kvs[j]? = some (k, v) → H p = some (.tup [.ref b, v]) ∧ H b = some (.tup (k.map kV))) ∧ ∀ q, H q = none → Q (.ref q) (upd H q (.dT (putAll [] kvs)))
/-- the pairs as the heap holds them -/
theorem pairsOf {P : Program} {w : World} {H : Hp} {h : Heap} (ok : HOk P w H h) : ∀ (kvs : List (List L2.Key × V)) (ps bs : List Addr), ps.length = kvs.length → bs.length = kvs.length →
    (∀ (j : Nat) p b k v, ps[j]? = some p → bs[j]? = some b → kvs[j]? = some (k, v) → H p = some (.tup [.ref b, v]) ∧ H b = some (.tup (k.map kV))) →
    ∃ xs : List (List L2.Key × Addr × Value), KT H kvs xs ∧ ∀ (j : Nat) x, xs[j]? = some x → ∃ p, ps[j]? = some p ∧ IsTup h p #[.ref x.2.1, x.2.2]
  | [], _, _, _, _, _ => ⟨[], .nil, fun j x e => by simp at e⟩
  | (k, v) :: kvs, [], _, l1, _, _ => by simp at l1
  | (k, v) :: kvs, p :: ps, [], _, l2, _ => by simp at l2
  | (k, v) :: kvs, p :: ps, b :: bs, l1, l2, a => by
    obtain ⟨xs, kt, at_⟩ := pairsOf ok kvs ps bs (Nat.succ.inj l1) (Nat.succ.inj l2) fun j p b k v e1 e2 e3 => a (j + 1) p b k v (by simpa using e1) (by simpa using e2) (by simpa using e3)
    obtain ⟨hp, hb⟩ := a 0 p b k v rfl rfl rfl
    obtain ⟨_, its, rel, tup⟩ := (show ObjOk P w H h p (.tup [.ref b, v]) from ok p _ hp)
    obtain ⟨u1, u, rfl, r1, r2⟩ := vals2 rel
    cases r1
    refine ⟨(k, b, u) :: xs, .cons ⟨rfl, hb, r2⟩ kt, fun j x e => ?_⟩
    cases j with
    | zero => exact ⟨p, rfl, Option.some.inj e ▸ tup⟩
    | succ j =>
      obtain ⟨p', e1, e2⟩ := at_ j x (by simpa using e)
      exact ⟨p', by simpa using e1, e2⟩
theorem KT.keysEq {H : Hp} {kvs : List (List L2.Key × V)} {xs : List (List L2.Key × Addr × Value)} (r : KT H kvs xs) : kvs.map (·.1) = xs.map (·.1) := by
  induction r with
  | nil => rfl
  | cons h t ih => rw [List.map_cons, List.map_cons, ih, h.1]
theorem KT.key {H : Hp} {kvs : List (List L2.Key × V)} {xs : List (List L2.Key × Addr × Value)} (r : KT H kvs xs) : ∀ x ∈ xs, H x.2.1 = some (.tup (x.1.map kV)) := by
  induction r with
  | nil => exact fun _ z => nomatch z
  | cons h t ih =>
    intro x hx
    rcases List.mem_cons.mp hx with z | z
    · rw [z, ← h.1]
      exact h.2.1
    · exact ih x z
theorem call_dictPrT (hc : X.calm = true) (hu : X.A.units + 2 < cLine) : CallR X (.type "dict") (rDictPrT X.K) := by
  rintro pins s σ H _ us Q I rel ⟨l, ps, bs, kvs, rfl, sq, lp, lb, prs, fin⟩
  obtain ⟨_, rfl, ru⟩ := rel.one
  cases ru
  obtain ⟨its, ri, plain, zl⟩ := I.list sq
  obtain ⟨xs, kt, at_⟩ := pairsOf I.hok kvs ps bs lp lb prs
  have few : kvs.length ≤ sizeLine := by rw [List.length_map, lp] at zl; exact zl
  have lx : xs.length = kvs.length := (Paired.length kt).symm
  have items : PairItems s.heap its.toArray (fun j => ps.getD j 0) (xs.map fun x => (Value.ref x.2.1, x.2.2)) := by
    refine ⟨by rw [List.size_toArray, ← ri.length, List.length_map, List.length_map, lp, lx], fun j k v e => ?_⟩
    simp only [List.getElem?_map, Option.map_eq_some_iff] at e
    obtain ⟨x, e1, e2⟩ := e
    obtain ⟨p, p1, p2⟩ := at_ j x e1
    obtain ⟨u, q1, q2⟩ := ri.get (i := j) (x := V.ref p) (by rw [List.getElem?_map, p1]; rfl)
    cases q2
    cases e2
    have ep : ps.getD j 0 = p := by rw [List.getD_eq_getElem?_getD, p1]; rfl
    show its.toArray[j]? = some (Value.ref (ps.getD j 0)) ∧ PairAt s.heap (ps.getD j 0) _ _
    rw [ep]
    exact ⟨by simpa using q1, .inl p2⟩
  have plain' : PlainSeq "list" s.heap l its.toArray := by
    obtain ⟨o, n, e, c, d, z⟩ := plain
    exact ⟨o, n, e, c, d, z⟩
  refine call_dict_pairsH (knd := tupleKind (mixKind X.prog X.w)) (ps := xs) (PairArg.list l its.toArray _ _) (I.ok.hd hc) hu ⟨plain', items⟩
    ⟨by rw [List.length_map], fun i key v e => ?_⟩ (fun h' kp x hx => ?_) (by rw [List.length_map, lx]; exact few) fun h' tk made kp => ?_
  · obtain ⟨x, e1, e2⟩ := Option.map_eq_some_iff.mp ((List.getElem?_map ..).symm.trans e)
    cases e2
    exact ⟨x.1, x.2.1, e1, rfl⟩
  · exact key_of (I.hok.kept fun b u e => kp b u (Nat.ne_of_lt (Heap.lt_size e)) (fun z => nomatch z) e) (KT.key kt x hx)
  · have all_in := KT.putAll kt (acc := []) (ys := []) .nil
    have small := putAll_len kvs []
    rw [List.length_nil, Nat.zero_add] at small
    obtain ⟨q, es, ep, at0, ex, dat, ents, -, nd'⟩ := made
    have all : ∀ b o, s.heap.get? b = some o → h'.get? b = some o := fun b o e => kp b o (fun z => nomatch z) e
    have obj : ObjOk X.prog X.w (upd H s.heap.objs.size (.dT (putAll [] kvs))) h' s.heap.objs.size (.dT (putAll [] kvs)) :=
      ⟨Nat.le_trans small few, beq_eq_false_iff_ne.mpr (Nat.ne_of_gt I.big), _, KT.keeps all_in fun c ys y => (upd_ne (ne_of_none y (I.hok.fresh (Nat.le_refl _)))).trans y, q, es, ep, at0, ex, dat, ents, nd'⟩
    exact ⟨.ref s.heap.objs.size, _, I.laid (t' := tk) all (Nat.le_refl _) obj, rfl, fin _ (I.hok.fresh (Nat.le_refl _))⟩
end
end DL
end
section
set_option Elab.async false
set_option linter.all false
set_option maxRecDepth 100000
/-! dict(d), d a dict with tuple keys whose hashes stand apart -/
namespace DL
open PySem PySem.Spec PyProof.Rows L2
def rDictDT (P : Program) (w : World) : List V → Hp → VK → Prop := fun xs H Q => ∃ (a : Addr) (kvs : List (List L2.Key × V)), xs = [V.ref a] ∧ Rd H a (.dT kvs) ∧ (kvs.map fun p => tupleKeyHash (mixKind P w) p.1).Nodup ∧ ∀ q, H q = none → Q (.ref q) (upd H q (.dT kvs))
theorem call_dictDT {X : Cx} (hu : X.A.units + 2 < cLine) : CallR X (.type "dict") (rDictDT X.prog X.w) := by
  rintro pins s σ H _ us Q I rel ⟨a, kvs, rfl, rd, apart, fin⟩
  obtain ⟨_, rfl, ru⟩ := rel.one
  cases ru
  obtain ⟨few, low, xs, kt, dd⟩ := dt_rd I.hok rd
  have lx : xs.length = kvs.length := (Paired.length kt).symm
  have grow : ∀ b o, s.heap.get? b = some o → (s.heap.push { cls := .type "dict", data := .dict #[] }).get? b = some o := fun b o => Heap.get?_push_of_some _
  have stay : ∀ h', (∀ b o, s.heap.get? b = some o → h'.get? b = some o) → ∀ x ∈ xs, (tupleKind (mixKind X.prog X.w)).is h' x.1 x.2.1 := fun h' k x hx => key_of (I.hok.kept k) (KT.key kt x hx)
  have here : s.heap.objs.size ≠ a := fun e => Nat.lt_irrefl _ (e ▸ dd.lt_size)
  have src := dd.at' (grow a) (stay _ grow)
  have new := Heap.DictOfH.new (knd := tupleKind (mixKind X.prog X.w)) s.heap
  have tups : ∀ x ∈ xs, Shared.TypeIs { s with heap := s.heap.push { cls := .type "dict", data := .dict #[] } } (.ref x.2.1) "tuple" := fun x hx => by
    obtain ⟨o, _, _, e, c, _⟩ := stay _ grow x hx
    exact ⟨o, e, c⟩
  have hashes : (xs.map fun x => (tupleKind (mixKind X.prog X.w)).hash x.1).Nodup := by
    have e : (xs.map fun x => (tupleKind (mixKind X.prog X.w)).hash x.1) = (kvs.map (·.1)).map (tupleKeyHash (mixKind X.prog X.w)) := by
      rw [KT.keysEq kt, List.map_map]
      rfl
    rw [e, List.map_map]
    exact apart
  refine callType_codes F.kt_called_dict (F.kt_typeCall_dict_1 _) F.entry_dict_init (kt_code_dict_new (Q₁ := fun v t => v = .ref s.heap.objs.size ∧ t = { s with heap := s.heap.push { cls := .type "dict", data := .dict #[] } }) _ ⟨rfl, rfl⟩) ?_
  rintro _ _ ⟨rfl, rfl⟩
  refine ⟨new.typeIs, F.args_dict_init_2 _ _, ?_⟩
  unfold Builtin.«dict.__init__» Builtin.Dict.selfAndRest
  refine wpAny_bind (wpAny_bind (wpAny_notOrdered_dict new.typeIs (wpAny_pure ?_)))
  refine updateFrom_dictH (A := X.A.in1) (knd := tupleKind (mixKind X.prog X.w)) (kvs := []) .none hu here low new src (.inr ⟨tups, hashes⟩) (by rw [lx]; simpa using few) fun h' made _ but => ?_
  rw [storedAllH_nil_of_nodup xs dd.nodup] at made
  have all : ∀ b o, s.heap.get? b = some o → h'.get? b = some o := fun b o e => (but.2 b (Nat.ne_of_lt (Heap.lt_size e))).trans (grow b o e)
  obtain ⟨q, es, ep, at0, ex, dat, ents, -, nd⟩ := made
  have obj : ObjOk X.prog X.w (upd H s.heap.objs.size (.dT kvs)) h' s.heap.objs.size (.dT kvs) :=
    ⟨few, beq_eq_false_iff_ne.mpr (Nat.ne_of_gt I.big), xs, KT.keeps kt fun c ys y => (upd_ne (ne_of_none y (I.hok.fresh (Nat.le_refl _)))).trans y, q, es, ep, at0, ex, dat, ents, nd⟩
  exact ⟨rfl, .ref s.heap.objs.size, _, I.laid (t' := s.toks) all (Nat.le_refl _) obj, rfl, fin _ (I.hok.fresh (Nat.le_refl _))⟩
end DL
end
section
set_option Elab.async false
set_option linter.all false
set_option maxRecDepth 100000
/-! None in d, d a dict with tuple keys none of which has None's hash; which hashes stand apart -/
namespace DL
open PySem PySem.Spec PyProof.Rows L2
section
variable {P : Program} {w : World} {A : Around} {E : Value → Shared → Prop} {s : Shared}
/-- nothing is found where no hash is the wanted one -/
theorem find_noHash {d : Addr} {o : Obj} {es : Array DictEntry} {ep : Nat} {h : Int} {Q : Option Nat → Shared → Prop} (ho : s.heap.get? d = some o) (hd : o.data = .dict es ep) (no : ∀ e ∈ es.toList, e.hash ≠ h) (fin : Q none s) :
    wpAny (model P w) A (dictFind d .none h) Q E s := by
  have empty : placesWithHash es.size (fun i => es[i]?.map (·.hash)) h = [] := by
    unfold placesWithHash
    rw [List.filter_eq_nil_iff]
    intro i hi z
    rw [List.mem_range] at hi
    dsimp only at z
    rw [Array.getElem?_eq_getElem hi] at z
    exact no es[i] (Array.mem_toList_iff.mpr (Array.getElem_mem hi)) (by simpa using z)
  unfold dictFind
  refine wpAny_holding (wpAny_bind (wpAny_dictEntries ho hd ?_))
  dsimp only
  rw [empty]
  exact wpAny_bind (wpAny_pure (wpAny_pure fin))
theorem in_none {d : Addr} {o : Obj} {es : Array DictEntry} {ep : Nat} {Q : Value → Shared → Prop} (ho : s.heap.get? d = some o) (ex : o.ExactDict) (hd : o.data = .dict es ep) (low : (d == sysModules) = false) (no : ∀ e ∈ es.toList, e.hash ≠ (noneKind P w).hash none)
    (fin : Q (.bool false) { s with toks := s.toks + 1 }) : wpAny (model P w) A (compareOp .In .none (.ref d)) Q E s := by
  have ty : s.TypeIs (.ref d) "dict" := ⟨o, ho, ex.1⟩
  show wpAny _ _ (contains (.ref d) .none >>= fun b => pure (.bool b)) Q E s
  refine wpAny_bind ?_
  unfold contains
  refine wpAny_holding (wpAny_bind (wpAny_specialOf ty slot_dict_contains.lookup ?_))
  rw [if_neg (by decide)]
  refine wpAny_bind (wpAny_callSpecialUnlessNone?_slot (name := Str.ofString "__contains__") ty slot_dict_contains (wpAny_call_entry slot_dict_contains ty entry_dict_contains ?_ (args_dict_contains _ _)))
  show wpAny _ _ (dictGet d .none >>= _) _ _ s
  unfold dictGet
  refine wpAny_bind (wpAny_holding (wpAny_bind ((noneKind P w).pyHash (k := none) rfl (wpAny_bind (find_noHash (s := { s with toks := s.toks + 1 }) ho hd no (wpAny_pure ?_))))))
  show wpAny _ _ (Builtin.Dict.pendingKey? d .none >>= _) _ _ _
  exact wpAny_bind (wpAny_pendingKey_other low (wpAny_pure ⟨_, rfl, wpAny_truthy_bool (wpAny_pure fin)⟩))
end
section
variable {X : Cx} {o i : Expr} {td ty : TE}
/-- None in d: not there -/
def tDNone (P : Program) (w : World) (ty td : TE) : TE := fun σ H Q => ty σ H fun y H1 => td σ H1 fun x H2 => ∃ a kvs, x = .ref a ∧ y = .non ∧ Rd H2 a (.dT kvs) ∧ (∀ p ∈ kvs, tupleKeyHash (mixKind P w) p.1 ≠ reduceHash 0xFCA86420) ∧ Q (.bl false) H2
theorem pc_none (hi : PE X i ty) (ho : PE X o td) : PC X .In i o (tDNone X.prog X.w ty td) := ⟨fun pins s σ H Q I h => by
  refine thn (hi.run pins s σ H _ I h) fun iv s1 got => ?_
  obtain ⟨y, H1, I1, ry, q1⟩ := got
  refine thn (ho.run pins s1 σ H1 _ I1 q1) fun u s2 got => ?_
  obtain ⟨x, H2, I2, rx, a, kvs, rfl, rfl, rd, no, fin⟩ := got
  cases rx
  cases ry
  obtain ⟨_, low, xs, kt, q, es, ep, at0, ex, dat, ents, -⟩ := dt_rd I2.hok rd
  refine in_none at0 ex dat low (fun e he => ?_) ⟨.bl false, H2, I2.tok _, rfl, fin⟩
  rw [ents] at he
  obtain ⟨z, hz, rfl⟩ := List.mem_map.mp he
  have hk : z.1 ∈ kvs.map (·.1) := KT.keysEq kt ▸ List.mem_map_of_mem hz
  obtain ⟨p, hp, ep⟩ := List.mem_map.mp hk
  show tupleKeyHash (mixKind X.prog X.w) z.1 ≠ reduceHash 0xFCA86420
  rw [← ep]
  exact no p hp⟩
/-- y in d, y a tuple or None -/
def tDInZ (P : Program) (w : World) (ty td : TE) : TE := fun σ H Q => tDIn ty td σ H Q ∨ tDNone P w ty td σ H Q
theorem pc_dinZ (hu : X.A.units + 1 < cLine) (hi : PE X i ty) (ho : PE X o td) : PC X .In i o (tDInZ X.prog X.w ty td) := ⟨fun pins s σ H Q I h => h.elim ((pc_din hu hi ho).run pins s σ H Q I) ((pc_none hi ho).run pins s σ H Q I)⟩
end
/-- the hash of a row of ints -/
def rowHash (ns : List Int) : Int := reduceHash (Builtin.Tuple.tupleHashOf (ns.map hashInt))
theorem hash_row (P : Program) (w : World) (ns : List Int) : tupleKeyHash (mixKind P w) (ik ns) = rowHash ns := by
  unfold tupleKeyHash rowHash ik
  rw [List.map_map]
  rfl
theorem RepKv.keys {K : PySem.W.Frag} {B : Hp} {m : List (List Int × D)} {kvs : List (List L2.Key × V)} (h : RepKv K B kvs m) : kvs.map (·.1) = m.map fun p => ik p.1 := by
  induction m generalizing kvs with
  | nil => cases h; rfl
  | cons p m ih =>
    cases h with
    | cons h1 h2 => rw [List.map_cons, List.map_cons, ih h2]
section
variable {K : PySem.W.Frag} {ss ss1 ss2 : Sl} {mem m1 m2 m3 m4 : List Mc} {ta tb tc te td ty tx tv : TE} {i j : Int} {d e : D} {r r' x : Vl} {t u : TS} {out : Out} {k : List Int} {m : List (List Int × D)} {P : Program} {w : World}
theorem dt_dinZ (hy : DT K ty ss mem (.dat (rowD k)) m1) (hd : DT K td ss m1 x m2) (hm : IsDic m2 x m) : DT K (tDInZ P w ty td) ss mem (.dat (.bl (getI m k).isSome)) m2 := fun B H al σ Q S q => .inl (dt_din hy hd hm B H al σ Q S q)
theorem dt_noneIn (hy : DT K ty ss mem (.dat .non) m1) (hd : DT K td ss m1 x m2) (hm : IsDic m2 x m) (no : ∀ p ∈ m, rowHash p.1 ≠ reduceHash 0xFCA86420) : DT K (tDInZ P w ty td) ss mem (.dat (.bl false)) m2 := fun B H al σ Q S q => .inr <|
  hy B H al σ _ S fun B1 H1 al1 v P1 S1 r1 => hd B1 H1 al1 σ _ S1 fun B2 H2 al2 v2 P2 S2 r2 => by
    cases r1
    obtain ⟨a, kvs, rfl, rd, rk⟩ := dic_at S2 r2 hm
    refine ⟨a, kvs, rfl, rfl, rd, fun p hp => ?_, q _ _ _ _ (P1.trans P2) S2 (.bl _)⟩
    have hk : p.1 ∈ m.map fun p => ik p.1 := rk.keys ▸ List.mem_map_of_mem hp
    obtain ⟨z, hz, ez⟩ := List.mem_map.mp hk
    rw [← ez, hash_row]
    exact no z hz
/-- dict(d): a new own dict -/
theorem dt_dictD (hd : DT K td ss mem x m1) (hm : IsDic m1 x m) (ap : (m.map fun p => rowHash p.1).Nodup) : DT K (tCB (rDictDT P w) (tCons td tNil)) ss mem (.own m1.length) (m1 ++ [.dic m]) := fun B H al σ Q S k =>
  hd B H al σ _ S fun B1 H1 al1 v P1 S1 r1 => by
    obtain ⟨a, kvs, rfl, rd, rk⟩ := dic_at S1 r1 hm
    refine ⟨a, kvs, rfl, rd, ?_, fun q nq => ?_⟩
    · have e : (kvs.map fun p => tupleKeyHash (mixKind P w) p.1) = m.map fun p => rowHash p.1 := by
        rw [show (kvs.map fun p => tupleKeyHash (mixKind P w) p.1) = (kvs.map (·.1)).map (tupleKeyHash (mixKind P w)) by rw [List.map_map]; rfl, rk.keys, List.map_map]
        exact List.map_congr_left fun p _ => hash_row P w p.1
      rw [e]
      exact ap
    · obtain ⟨P2, S2⟩ := S1.layOwn (o := .dT kvs) (m := .dic m) nq ⟨S1.sub.free nq, kvs, upd_same, rk⟩
      exact k _ _ _ _ (P1.trans P2) S2 ⟨q, by rw [← S1.mlen, List.getElem?_append_right (Nat.le_refl _), Nat.sub_self]; rfl, rfl⟩
/-- d.pop(k), d own, k there -/
theorem dt_pop1 {n : Nat} {t : TA} (ho : DT K td ss mem (.own n) m1) (hm1 : m1[n]? = some (.dic m)) (ht : DA K t ss m1 [rowD k] m2) (hm : m2[n]? = some (.dic m)) (hv : getI m k = some d) : DT K (tBM K "dict" rPop1T td t) ss mem (.dat d) (m2.set n (.dic (dropI m k))) := fun B H al σ Q S q =>
  ho B H al σ _ S fun B1 H1 al1 v P1 S1 r1 => by
    obtain ⟨a, a1, rfl⟩ := r1
    obtain ⟨_, kv0, a2, a3⟩ := S1.mem n a _ a1 hm1
    refine ⟨.inr (.inr (.inl ⟨rfl, .inr ⟨_, a2⟩⟩)), ht B1 H1 al1 σ _ S1 fun B2 H2 al2 vs P2 S2 r2 => ?_⟩
    obtain ⟨w0, rfl, rw0⟩ := one_data r2
    have a1' := P2.get a1
    obtain ⟨b0, kvs, c2, c3⟩ := S2.mem n a _ a1' hm
    obtain ⟨b, rfl, hb⟩ := rep_key rw0
    rcases c3.get k with ⟨y, d', g1, g2, g3⟩ | ⟨_, g2⟩
    · cases hv.symm.trans g2
      obtain ⟨P3, S3⟩ := S2.write (o := .dT (dropK kvs (ik k))) (m := .dic (dropI m k)) a1' b0 ⟨b0, _, upd_same, c3.drop⟩
      exact ⟨a, kvs, ik k, b, y, rfl, rfl, c2, S2.sub _ _ hb, g1, q _ _ _ _ ((P1.trans P2).trans P3) S3 (Rep.mono P3.same _ g3)⟩
    · cases hv.symm.trans g2
end
/-- all rows of four small ints: places under 5, ice under 7, warm hours under 3, lateness under 5 -/
def rows4 : List (List Int) := (List.range 5).flatMap fun p : Nat => (List.range 7).flatMap fun i : Nat => (List.range 3).flatMap fun h : Nat => (List.range 5).map fun l : Nat => [(p : Int), (i : Int), (h : Int), (l : Int)]
theorem rows4_apart : (rows4.map rowHash).Nodup := by decide +kernel
theorem rows4_none : ∀ k ∈ rows4, rowHash k ≠ reduceHash 0xFCA86420 := by decide +kernel
theorem apart_of {m : List (List Int × D)} (nd : (m.map (·.1)).Nodup) (inn : ∀ p ∈ m, p.1 ∈ rows4) : (m.map fun p => rowHash p.1).Nodup := by
  have inj : ∀ a ∈ rows4, ∀ b ∈ rows4, rowHash a = rowHash b → a = b := fun a ha b hb e => by
    obtain ⟨i, hi, rfl⟩ := List.mem_iff_getElem.mp ha
    obtain ⟨j, hj, rfl⟩ := List.mem_iff_getElem.mp hb
    have hij : i = j := (List.getElem?_inj (l := rows4.map rowHash) (by rw [List.length_map]; exact hi) rows4_apart).mp (by
      rw [List.getElem?_map, List.getElem?_map, List.getElem?_eq_getElem hi, List.getElem?_eq_getElem hj]
      exact congrArg some e)
    subst hij
    rfl
  induction m with
  | nil => exact List.nodup_nil
  | cons p m ih =>
    rw [List.map_cons, List.nodup_cons] at nd ⊢
    refine ⟨fun z => nd.1 ?_, ih nd.2 fun q hq => inn q (List.mem_cons_of_mem _ hq)⟩
    obtain ⟨q, hq, e⟩ := List.mem_map.mp z
    rw [← inj q.1 (inn q (List.mem_cons_of_mem _ hq)) p.1 (inn p List.mem_cons_self) e]
    exact List.mem_map_of_mem hq
end DL
end
section
set_option Elab.async false
set_option linter.all false
set_option maxRecDepth 100000
/-! dict(pairs), list(d), said of data -/
namespace DL
open PySem PySem.Spec PyProof.Rows L2
def pairD (p : List Int × D) : D := .tup [rowD p.1, p.2]
section
variable {K : PySem.W.Frag} {ss ss1 ss2 : Sl} {mem m1 m2 m3 m4 : List Mc} {ta tb tc te td ty tx tv : TE} {i j : Int} {d e : D} {r r' x : Vl} {t u : TS} {out : Out} {k : List Int} {m : List (List Int × D)} {P : Program} {w : World}
theorem RepAll.pairs {B : Hp} : ∀ {m : List (List Int × D)} {vs : List V}, RepAll K B vs (m.map pairD) → ∃ (ps bs : List Addr) (kvs : List (List L2.Key × V)), vs = ps.map V.ref ∧ ps.length = kvs.length ∧ bs.length = kvs.length ∧ RepKv K B kvs m ∧
    ∀ (j : Nat) p b k v, ps[j]? = some p → bs[j]? = some b → kvs[j]? = some (k, v) → B p = some (.tup [.ref b, v]) ∧ B b = some (.tup (k.map kV))
  | [], _, h => by
    cases h
    exact ⟨[], [], [], rfl, rfl, rfl, .nil, fun j p b k v e => by simp at e⟩
  | (k, d) :: m, _, h => by
    cases h with
    | cons h1 h2 =>
      obtain ⟨ps, bs, kvs, rfl, l1, l2, rk, at_⟩ := RepAll.pairs h2
      cases h1 with
      | @tup p xs _ s r =>
        obtain ⟨v1, v2, rfl, r1, r2⟩ := two_data r
        obtain ⟨b, rfl, hb⟩ := rep_key r1
        refine ⟨p :: ps, b :: bs, (ik k, v2) :: kvs, rfl, by simp [l1], by simp [l2], .cons r2 rk, fun j p' b' k' v' e1 e2 e3 => ?_⟩
        cases j with
        | zero =>
          cases e1
          cases e2
          cases e3
          exact ⟨s, hb⟩
        | succ j => exact at_ j p' b' k' v' (by simpa using e1) (by simpa using e2) (by simpa using e3)
def putAllI (acc m : List (List Int × D)) : List (List Int × D) := m.foldl (fun c p => putI c p.1 p.2) acc
theorem RepKv.putAll {B : Hp} : ∀ {m : List (List Int × D)} {kvs : List (List L2.Key × V)}, RepKv K B kvs m → ∀ {acc : List (List L2.Key × V)} {n : List (List Int × D)}, RepKv K B acc n → RepKv K B (DL.putAll acc kvs) (putAllI n m)
  | [], _, h, _, _, g => by cases h; exact g
  | p :: m, _, h, acc, n, g => by
    cases h with
    | cons h1 h2 => exact RepKv.putAll h2 (g.put h1)
/-- dict([(k, v), ..]) -/
theorem dt_dictPr (h : DT K te ss mem (.dat (.lst (m.map pairD))) m1) : DT K (tCB (rDictPrT K) (tCons te tNil)) ss mem (.own m1.length) (m1 ++ [.dic (putAllI [] m)]) := fun B H al σ Q S q =>
  h B H al σ _ S fun B1 H1 al1 v P1 S1 r1 => by
    cases r1 with
    | @lst l xs _ s r =>
      obtain ⟨ps, bs, kvs, rfl, l1, l2, rk, at_⟩ := r.pairs
      refine ⟨l, ps, bs, kvs, rfl, S1.seqL s, l1, l2, fun j p b k v e1 e2 e3 => let z := at_ j p b k v e1 e2 e3; ⟨S1.sub _ _ z.1, S1.sub _ _ z.2⟩, fun c nc => ?_⟩
      obtain ⟨P2, S2⟩ := S1.layOwn (o := .dT (DL.putAll [] kvs)) (m := .dic (putAllI [] m)) nc ⟨S1.sub.free nc, _, upd_same, RepKv.putAll rk .nil⟩
      exact q _ _ _ _ (P1.trans P2) S2 ⟨c, by rw [← S1.mlen, List.getElem?_append_right (Nat.le_refl _), Nat.sub_self]; rfl, rfl⟩
/-- the key tuples of a dict are taken into the base -/
theorem Sit.takeKeys {H : Hp} {al : List Addr} {σ : L2.St} : ∀ {m : List (List Int × D)} {kvs : List (List L2.Key × V)} {bs : List Addr} {B : Hp}, Sit K B H al σ ss mem → RepKv K B kvs m → IsKeys H kvs bs →
    ∃ B', Stp B H al B' H al ∧ Sit K B' H al σ ss mem ∧ RepAll K B' (bs.map V.ref) (m.map fun p => rowD p.1)
  | [], _, _, B, S, rk, ks => by
    cases rk
    cases ks
    exact ⟨B, Stp.refl _ _ _, S, .nil⟩
  | (k, d) :: m, _, _, B, S, rk, ks => by
    cases rk with
    | cons r1 r2 =>
      cases ks with
      | @cons _ b _ bs hb ks =>
        obtain ⟨B1, P1, S1, ra⟩ := Sit.takeKeys S r2 ks
        have done : ∀ B2, Same B1 B2 → B2 b = some (.tup ((ik k).map kV)) → RepAll K B2 (V.ref b :: bs.map V.ref) (rowD k :: m.map fun p => rowD p.1) := fun B2 sm e => .cons (key_rep e) (RepAll.mono sm _ ra)
        rcases Option.eq_none_or_eq_some (B1 b) with nb | ⟨o, eb⟩
        · have sB : Same B1 (upd B1 b (.tup ((ik k).map kV))) := fun c u e => by rw [upd_ne (ne_of_none e nb)]; exact e
          refine ⟨_, P1.trans (B2 := upd B1 b (.tup ((ik k).map kV))) (H2 := H) (al2 := al) ⟨sB, fun _ _ e _ => e, fun c h => ?_, fun _ h => h, [], by rw [List.append_nil], fun _ h => by cases h⟩,
            ⟨fun c u e => ?_, S1.len, fun i r e => ?_, S1.mlen, fun n c q e1 e2 => ?_, S1.nd, S1.there⟩, done _ sB upd_same⟩
          · by_cases z : c = b
            · exact .inr (.inr (.inr ⟨_, z ▸ hb⟩))
            · exact .inl (by rw [upd_ne z] at h; exact h)
          · by_cases z : c = b
            · subst z
              rw [upd_same] at e
              exact e ▸ hb
            · exact S1.sub c u (by rw [upd_ne z] at e; exact e)
          · obtain ⟨v, h1, h2⟩ := S1.slot i r e
            refine ⟨v, h1, ?_⟩
            cases r with
            | dat d => exact Rep.mono sB d h2
            | own n => exact h2
            | tl ds => exact h2.imp fun a z => z.imp fun xs y => ⟨y.1, sB _ _ y.2.1, RepAll.mono sB ds y.2.2⟩
            | lk ds =>
              obtain ⟨a, o', kvs, z1, z2, z3⟩ := h2
              exact ⟨a, o', kvs, z1, sB _ _ z2, RepKv.mono sB ds z3⟩
          · have old := S1.mem n c q e1 e2
            cases q with
            | gone => trivial
            | gen φ =>
              refine old.grow sB (upd_ne fun z => ?_)
              subst z
              obtain ⟨_, o, h3, h5, _⟩ := old
              rw [hb] at h3
              exact h5 _ (Option.some.inj h3).symm
            | _ =>
              refine old.grow sB (upd_ne fun z => ?_)
              subst z
              simp only [McOk, hb] at old
              obtain ⟨_, z⟩ := old
              simp at z
        · have z := S1.sub _ _ eb
          rw [hb] at z
          cases z
          exact ⟨B1, P1, S1, done _ (Same.refl _) eb⟩
def rListDT : List V → Hp → VK → Prop := fun xs H Q => ∃ d kvs, xs = [V.ref d] ∧ Rd H d (.dT kvs) ∧ ∀ p bs, H p = none → IsKeys H kvs bs → Q (.ref p) (upd H p (.lst (bs.map V.ref)))
/-- list(d): its keys, as data -/
theorem dt_listD (hd : DT K td ss mem x m1) (hm : IsDic m1 x m) : DT K (tCB rListDT (tCons td tNil)) ss mem (.dat (.lst (m.map fun p => rowD p.1))) m1 := fun B H al σ Q S q =>
  hd B H al σ _ S fun B1 H1 al1 v P1 S1 r1 => by
    obtain ⟨a, kvs, rfl, rd, rk⟩ := dic_at S1 r1 hm
    refine ⟨a, kvs, rfl, rd, fun p bs np ks => ?_⟩
    obtain ⟨B2, P2, S2, ra⟩ := S1.takeKeys rk ks
    obtain ⟨P3, S3⟩ := S2.lay (o := .lst (bs.map V.ref)) np
    exact q _ _ _ _ ((P1.trans P2).trans P3) S3 (.lst (SqL.of upd_same) (RepAll.mono P3.same _ ra))
end
end DL
end
section
set_option Elab.async false
set_option linter.all false
set_option maxRecDepth 100000
/-! dicts of ints, as data -/
namespace DL
open PySem PySem.Spec PyProof.Rows L2
/-- a dict of ints -/
def toD (mi : List (List Int × Int)) : List (List Int × D) := mi.map fun p => (p.1, .int p.2)
def lookI : List (List Int × Int) → List Int → Option Int
  | [], _ => none
  | p :: m, k => if p.1 = k then some p.2 else lookI m k
theorem getI_toD (mi : List (List Int × Int)) (k : List Int) : getI (toD mi) k = (lookI mi k).map D.int := by
  induction mi with
  | nil => rfl
  | cons p m ih =>
    show (if p.1 = k then _ else getI (toD m) k) = (if p.1 = k then _ else lookI m k).map D.int
    by_cases e : p.1 = k
    · rw [if_pos e, if_pos e]; rfl
    · rw [if_neg e, if_neg e]; exact ih
end DL
end
section
set_option Elab.async false
set_option linter.all false
set_option maxRecDepth 100000
/-! xs[::-1], x is True -/
namespace DL
open PySem PySem.Spec PyProof.Rows L2
section
variable {K : PySem.W.Frag} {ss : Sl} {mem m1 m2 : List Mc} {te ta tb : TE} {ds : List D} {a b : Bool}
theorem RepAll.reverse {B : Hp} : ∀ {ds : List D} {vs : List V}, RepAll K B vs ds → RepAll K B vs.reverse ds.reverse
  | [], _, h => by cases h; exact .nil
  | d :: ds, _, h => by
    cases h with
    | cons h1 h2 =>
      rw [List.reverse_cons, List.reverse_cons]
      exact (RepAll.reverse h2).append (.cons h1 .nil)
theorem dt_rev (h : DT K te ss mem (.dat (.lst ds)) m1) : DT K (tRevL K te) ss mem (.dat (.lst ds.reverse)) m1 := fun B H al σ Q S k =>
  h B H al σ _ S fun B1 H1 al1 v P1 S1 r1 => by
    cases r1 with
    | @lst a xs _ s r =>
      refine ⟨a, xs, rfl, S1.seqL s, fun p np => ?_⟩
      obtain ⟨P3, S3⟩ := S1.lay (o := .lst xs.reverse) np
      exact k _ _ _ _ (P1.trans P3) S3 (.lst (SqL.of upd_same) (RepAll.mono P3.same _ r.reverse))
theorem dt_isB (ha : DT K ta ss mem (.dat (.bl a)) m1) (hb : DT K tb ss m1 (.dat (.bl b)) m2) : DT K (tOp rIsB ta tb) ss mem (.dat (.bl (decide (a = b)))) m2 := dt_op ha hb fun B H al σ v w Q S hv hw k => by
  cases hv
  cases hw
  exact ⟨a, b, rfl, rfl, k _ _ _ _ (Stp.refl _ _ _) S (.bl _)⟩
theorem dt_notB (ha : DT K ta ss mem (.dat (.bl a)) m1) (hb : DT K tb ss m1 (.dat (.bl b)) m2) : DT K (tOp rNotB ta tb) ss mem (.dat (.bl (!decide (a = b)))) m2 := dt_op ha hb fun B H al σ v w Q S hv hw k => by
  cases hv
  cases hw
  exact ⟨a, b, rfl, rfl, k _ _ _ _ (Stp.refl _ _ _) S (.bl _)⟩
end
end DL
namespace DL
open PySem PySem.Spec PyProof.Rows L2
theorem rm1 {k : Nat} {A : Around} (r : Room k A) : A.units + 1 < cLine := by have := r.units; omega
theorem rm2 {k : Nat} {A : Around} (r : Room k A) : A.units + 2 < cLine := by have := r.units; omega
end DL
namespace DL
open PySem PySem.Spec PyProof.Rows L2
theorem pcDinZ {X : Cx} {i o : Expr} {ty td : TE} (P : Program) (w : World) (hu : X.A.units + 1 < cLine) (hi : PE X i ty) (ho : PE X o td) (hP : X.prog = P := by rfl) (hw : X.w = w := by rfl) : PC X .In i o (tDInZ P w ty td) := hP ▸ hw ▸ pc_dinZ hu hi ho
/-- max of a list of ints that is data -/
theorem dt_maxL {K : PySem.W.Frag} {ss : Sl} {mem m1 : List Mc} {te : TE} {ns : List Int} {m : Int} (h : DT K te ss mem (.dat (.lst (ns.map .int))) m1) (inn : m ∈ ns) (most : ∀ y ∈ ns, y ≤ m) : DT K (tCB (rMax K) (tCons te tNil)) ss mem (.dat (.int m)) m1 := fun B H al σ Q S k =>
  h B H al σ _ S fun B1 H1 al1 v P1 S1 r1 => by
    cases r1 with
    | @lst a xs _ s r =>
      cases r.ints
      exact ⟨a, ns, rfl, S1.seqL s, List.length_pos_of_mem inn, fun m' h1 h2 => Int.le_antisymm (most m' h1) (h2 m inn) ▸ k _ _ _ _ P1 S1 (.int _)⟩
end DL
namespace DL
open PySem PySem.Spec PyProof.Rows L2
section
variable {K : PySem.W.Frag} {ss : Sl} {mem m1 : List Mc} {r : Vl}
theorem first_true {p : Nat → Bool} : ∀ n, (List.range n).any p = true → ∃ j, j < n ∧ p j = true ∧ ∀ i, i < j → p i = false
  | 0, h => by simp at h
  | n + 1, h => by
    by_cases q : (List.range n).any p = true
    · obtain ⟨j, a, b, c⟩ := first_true n q
      exact ⟨j, Nat.lt_succ_of_lt a, b, c⟩
    · rw [List.range_succ, List.any_append, Bool.or_eq_true] at h
      refine ⟨n, Nat.lt_succ_self n, by simpa using h.resolve_left q, fun i hi => ?_⟩
      cases z : p i with
      | false => rfl
      | true => exact absurd (List.any_eq_true.mpr ⟨i, List.mem_range.mpr hi, z⟩) q
/-- for x in ..: a turn may answer r; the names ks are left behind -/
theorem ds_search {wi : TI} {k : Nat} {tb : TS} {n : Nat} {it : Nat → D} (ks : List Nat) (f : Sl) (f0 : wipeS ss ks = f) (hi : DI K wi f mem n it m1) (p : Nat → Bool)
    (step : ∀ i, i < n → (p i = true → DS K tb (f.set k (some (.dat (it i)))) m1 (.rt r m1)) ∧ (p i = false → ∃ s', DS K tb (f.set k (some (.dat (it i)))) m1 (.nx s' m1) ∧ wipeS s' ks = f)) :
    DS K (tFor wi (gName k) tb) ss mem (if (List.range n).any p = true then .rt r m1 else .nx f m1) := by
  have go : ∀ j, j ≤ n → (∀ i, i < j → p i = false) → ∀ i, i < j → ∃ ss' ws, DG K (gName k) f (it i) ss' ws ∧ (DS K tb ss' m1 (.nx f m1) ∨ DS K tb ss' m1 (.ct f m1)) := fun j le no i hi => by
    obtain ⟨s', a, b⟩ := (step i (by omega)).2 (no i hi)
    exact ⟨_, _, dg_name, .inl (ds_wipe ks a b)⟩
  refine ds_pre ks f0 ?_
  by_cases q : (List.range n).any p = true
  · obtain ⟨j, lt, yes, no⟩ := first_true n q
    rw [if_pos q]
    exact ds_for hi (fun _ => f) (fun _ => m1) rfl rfl j (Nat.le_of_lt lt) (go j (Nat.le_of_lt lt) no) (.inr ⟨lt, _, _, dg_name, .inl ⟨r, m1, (step j lt).1 yes, rfl⟩⟩)
  · rw [if_neg q]
    refine ds_for hi (fun _ => f) (fun _ => m1) rfl rfl n (Nat.le_refl n) (go n (Nat.le_refl n) fun i hi => ?_) (.inl ⟨rfl, rfl⟩)
    cases z : p i with
    | false => rfl
    | true => exact absurd (List.any_eq_true.mpr ⟨i, List.mem_range.mpr hi, z⟩) q
end
end DL
end
section
set_option Elab.async false
set_option linter.all false
set_option maxRecDepth 100000
/-! two names at once, one or both of them own objects; loops with any target -/
namespace DL
open PySem PySem.Spec PyProof.Rows L2
section
variable {K : PySem.W.Frag} {ss ss1 ss2 : Sl} {mem m1 m2 m3 m4 : List Mc} {ta tb tc te : TE} {i j : Int} {d e : D} {r r' : Vl} {t u : TS} {out : Out}
theorem ds_parV {i j : Nat} {ta : TA} (h : DAV K ta ss mem [r, r'] m1) : DS K (tPar i j ta) ss mem (.nx ((ss.set i (some r)).set j (some r')) m1) := fun B H al σ Dn S k =>
  h B H al σ _ S fun B1 H1 al1 vs P1 S1 r1 => by
    match vs, r1 with
    | [v, w], ⟨r1, r2, _⟩ => exact ⟨v, w, rfl, k _ _ _ P1 _ ((S1.put fun q e => by cases e; exact r1).put fun q e => by cases e; exact r2)⟩
theorem ds_forG {wi : TI} {g : TG} {tb : TS} {n : Nat} {it : Nat → D} (ks : List Nat) (f : Nat → Sl) (m : Nat → List Mc) (f0 : wipeS ss ks = f 0) (hi : DI K wi (f 0) mem n it (m 0)) (hlen : ∀ i, (m i).length = (m (i + 1)).length)
    (ho : ∀ i, ownsUnder (m i).length (f i) = true)
    (step : ∀ i, i < n → ∃ s1 ws s' more, DG K g (f i) (it i) s1 ws ∧ DS K tb s1 (m i) (.nx s' (m (i + 1) ++ more)) ∧ wipeS s' ks = f (i + 1)) : DS K (tFor wi g tb) ss mem (.nx (f n) (m n)) :=
  ds_pre ks f0 (ds_for_all hi f m rfl rfl fun i h => by
    obtain ⟨s1, ws, s', more, dg, a, b⟩ := step i h
    exact ⟨s1, ws, dg, ds_shed ks more a b (ho (i + 1)) (by rw [hlen i]; exact Nat.le_refl _)⟩)
theorem db_is {tt : TT} {b c : Bool} (h : DB K tt ss mem b m1) (e : b = c) : DB K tt ss mem c m1 := e ▸ h
end
end DL
end
section
set_option Elab.async false
set_option linter.all false
set_option maxRecDepth 100000
/-! comprehensions over a dict's own keys -/
namespace DL
open PySem PySem.Spec PyProof.Rows L2
theorem range_get {α : Type} (z : α) (l : List α) : (List.range l.length).map (fun i => l.getD i z) = l := by
  refine List.ext_getElem? fun i => ?_
  rw [List.getElem?_map]
  by_cases h : i < l.length
  · rw [List.getElem?_range h, List.getElem?_eq_getElem h]
    show some (l.getD i z) = _
    rw [List.getD_eq_getElem?_getD, List.getElem?_eq_getElem h]
    rfl
  · rw [List.getElem?_eq_none (by rw [List.length_range]; omega), List.getElem?_eq_none (by omega)]
    rfl
theorem range_filter {α β : Type} (z : α) (q : α → Bool) (g : α → β) (l : List α) : ((List.range l.length).filter fun i => q (l.getD i z)).map (fun i => g (l.getD i z)) = (l.filter q).map g := by
  conv => rhs; rw [← range_get z l]
  rw [List.filter_map, List.map_map]
  rfl
theorem getI_fresh {k : List Int} : ∀ {m : List (List Int × D)}, k ∉ m.map (·.1) → getI m k = none
  | [], _ => rfl
  | p :: m, h => by
    rw [List.map_cons, List.mem_cons, not_or] at h
    show (if p.1 = k then some p.2 else getI m k) = none
    rw [if_neg fun z => h.1 z.symm]
    exact getI_fresh h.2
theorem putI_fresh {k : List Int} {d : D} {m : List (List Int × D)} (h : k ∉ m.map (·.1)) : putI m k d = m ++ [(k, d)] := by
  unfold putI
  rw [getI_fresh h]
  rfl
section
variable {K : PySem.W.Frag} {ss ss1 ss2 : Sl} {mem m1 m2 m3 m4 : List Mc} {ta tb tc te td ty tx tv : TE} {d e : D} {r r' x : Vl} {t u : TS} {out : Out} {k : List Int} {m : List (List Int × D)}
/-- {k: v for k in d if t}, d a dict with keys apart, locked already -/
theorem dt_dcKeys0 {i j : Nat} {tt : TT} (hk : ss[i]? = some (some (.lk m))) (hj : j < ss.length) (nd : (m.map (·.1)).Nodup) (few : m.length < 16777216) (q : List Int × D → Bool) (f : List Int × D → D)
    (step : ∀ p ∈ m, DB K tt ((ss.set j none).set j (some (.dat (rowD p.1)))) mem (q p) mem ∧ (q p = true → DT K tv ((ss.set j none).set j (some (.dat (rowD p.1)))) mem (.dat (f p)) mem)) :
    DT K (tDcT (iKeys (tVar i)) (gName j) tt (tVar j) tv [j]) ss mem (.dat (.dic ((m.filter q).map fun p => (p.1, f p)))) mem := by
  let z : List Int × D := ([], .non)
  let acc : Nat → List (List Int × D) := fun n => ((m.take n).filter q).map fun p => (p.1, f p)
  have whole : acc m.length = (m.filter q).map fun p => (p.1, f p) := by
    show ((m.take m.length).filter q).map _ = _
    rw [List.take_length]
  have accLen : ∀ n, (acc n).length ≤ m.length := fun n => by
    show (((m.take n).filter q).map _).length ≤ _
    rw [List.length_map]
    exact Nat.le_trans (List.length_filter_le _ _) (by rw [List.length_take]; omega)
  have next : ∀ n, n < m.length → acc (n + 1) = acc n ++ if q (m.getD n z) = true then [((m.getD n z).1, f (m.getD n z))] else [] := fun n hn => by
    show ((m.take (n + 1)).filter q).map _ = ((m.take n).filter q).map _ ++ _
    rw [List.take_succ, List.getElem?_eq_getElem hn, List.getD_eq_getElem?_getD, List.getElem?_eq_getElem hn]
    show ((m.take n ++ [m[n]]).filter q).map _ = _
    rw [List.filter_append, List.map_append]
    congr 1
    show ([m[n]].filter q).map _ = if q m[n] = true then _ else _
    by_cases h : q m[n] = true
    · rw [if_pos h, List.filter_cons_of_pos h]
      rfl
    · rw [if_neg h, List.filter_cons_of_neg h]
      rfl
  have fresh : ∀ n, n < m.length → (m.getD n z).1 ∉ (acc n).map (·.1) := fun n hn hmem => by
    have e : (acc n).map (·.1) = ((m.take n).filter q).map (·.1) := by
      show (((m.take n).filter q).map _).map _ = _
      rw [List.map_map]
      rfl
    rw [e] at hmem
    obtain ⟨p, hp, ep⟩ := List.mem_map.mp hmem
    have hp' := (List.mem_filter.mp hp).1
    obtain ⟨j, hj, ej⟩ := List.getElem_of_mem hp'
    have hj' : j < n := by
      rw [List.length_take] at hj
      omega
    rw [List.getElem_take] at ej
    have a : (m.map (·.1))[j]? = some (m.getD n z).1 := by
      rw [List.getElem?_map, List.getElem?_eq_getElem (by omega), ej]
      exact congrArg some ep
    have b : (m.map (·.1))[n]? = some (m.getD n z).1 := by
      rw [List.getElem?_map, List.getElem?_eq_getElem hn, List.getD_eq_getElem?_getD, List.getElem?_eq_getElem hn]
      rfl
    exact absurd (nd_ix nd a b) (by omega)
  rw [← whole]
  refine dt_dc (di_keys hk) acc (fun _ => mem) rfl rfl (fun n hn => Nat.lt_of_le_of_lt (accLen n) few) fun n hn => ?_
  have mm : m.getD n z ∈ m := by
    rw [List.getD_eq_getElem?_getD, List.getElem?_eq_getElem hn]
    exact List.getElem_mem hn
  obtain ⟨s1, s2⟩ := step _ mm
  refine ⟨_, [j], dg_name, fun w hw => hw, ?_⟩
  by_cases h : q (m.getD n z) = true
  · refine .inl ⟨mem, mem, (m.getD n z).1, f (m.getD n z), h ▸ s1, dt_var (List.getElem?_set_self (by show j < (ss.set j none).length; rw [List.length_set]; exact hj)), s2 h, ?_⟩
    rw [next n hn, if_pos h]
    exact (putI_fresh (fresh n hn)).symm
  · rw [Bool.not_eq_true] at h
    refine .inr ⟨h ▸ s1, ?_⟩
    rw [next n hn, h, if_neg Bool.false_ne_true, List.append_nil]
/-- {k: v for k in d if t}, d a dict with keys apart -/
theorem dt_dcKeys {i j : Nat} {tt : TT} (hi : ss[i]? = some (some (.dat (.dic m)))) (nl : NoLk ss) (hj : j < ss.length) (nd : (m.map (·.1)).Nodup) (few : m.length < 16777216) (q : List Int × D → Bool) (f : List Int × D → D)
    (step : ∀ p ∈ m, DB K tt (((ss.set i (some (.lk m))).set j none).set j (some (.dat (rowD p.1)))) mem (q p) mem ∧ (q p = true → DT K tv (((ss.set i (some (.lk m))).set j none).set j (some (.dat (rowD p.1)))) mem (.dat (f p)) mem)) :
    DT K (tLkE (tDcT (iKeys (tVar i)) (gName j) tt (tVar j) tv [j])) ss mem (.dat (.dic ((m.filter q).map fun p => (p.1, f p)))) mem :=
  dt_lk i hi nl (fun _ e => nomatch e) (dt_dcKeys0 (List.getElem?_set_self (List.getElem?_eq_some_iff.mp hi).1) (by rw [List.length_set]; exact hj) nd few q f step)
/-- x = {k: v for k in d if t} -/
theorem ds_dcKeys {i j n : Nat} {tt : TT} (hi : ss[i]? = some (some (.dat (.dic m)))) (nl : NoLk ss) (hj : j < ss.length) (hn : n ≠ i) (nd : (m.map (·.1)).Nodup) (few : m.length < 16777216) (q : List Int × D → Bool) (f : List Int × D → D)
    (step : ∀ p ∈ m, DB K tt (((ss.set i (some (.lk m))).set j none).set j (some (.dat (rowD p.1)))) mem (q p) mem ∧ (q p = true → DT K tv (((ss.set i (some (.lk m))).set j none).set j (some (.dat (rowD p.1)))) mem (.dat (f p)) mem))
    (nl1 : NoLk (((ss.set i (some (.lk m))).set n (some (.dat (.dic ((m.filter q).map fun p => (p.1, f p)))))).set i (some (.dat (.dic m))))) :
    DS K (tLkS (tAsg (tDcT (iKeys (tVar i)) (gName j) tt (tVar j) tv [j]) (gName n))) ss mem (.nx (((ss.set i (some (.lk m))).set n (some (.dat (.dic ((m.filter q).map fun p => (p.1, f p)))))).set i (some (.dat (.dic m)))) mem) := by
  have hil := (List.getElem?_eq_some_iff.mp hi).1
  have hk : (ss.set i (some (.lk m)))[i]? = some (some (.lk m)) := List.getElem?_set_self hil
  exact ds_lkN i hi nl (by rw [List.getElem?_set_ne hn]; exact hk) nl1 (ds_set (dt_dcKeys0 hk (by rw [List.length_set]; exact hj) nd few q f step))
def noLkB : Sl → Bool
  | [] => true
  | some (.lk _) :: _ => false
  | _ :: s => noLkB s
theorem noLk_of : ∀ {s : Sl}, noLkB s = true → NoLk s
  | [], _, i, m, e => by simp at e
  | none :: s, h, 0, m, e => by cases e
  | none :: s, h, i + 1, m, e => noLk_of (s := s) h i m (by simpa using e)
  | some (.lk _) :: s, h, _, m, e => by cases h
  | some (.dat d) :: s, h, 0, m, e => by cases e
  | some (.dat d) :: s, h, i + 1, m, e => noLk_of (s := s) h i m (by simpa using e)
  | some (.tl d) :: s, h, 0, m, e => by cases e
  | some (.tl d) :: s, h, i + 1, m, e => noLk_of (s := s) h i m (by simpa using e)
  | some (.own d) :: s, h, 0, m, e => by cases e
  | some (.own d) :: s, h, i + 1, m, e => noLk_of (s := s) h i m (by simpa using e)
/-- [x for k in d if t], d a dict -/
theorem dt_lcKeys {i j : Nat} {tt : TT} (hi : ss[i]? = some (some (.dat (.dic m)))) (nl : NoLk ss) (few : m.length ≤ 16777216) (q : List Int × D → Bool) (f : List Int × D → D)
    (step : ∀ p ∈ m, DB K tt (((ss.set i (some (.lk m))).set j none).set j (some (.dat (rowD p.1)))) mem (q p) mem ∧ (q p = true → DT K tx (((ss.set i (some (.lk m))).set j none).set j (some (.dat (rowD p.1)))) mem (.dat (f p)) mem)) :
    DT K (tLkE (tLc (iKeys (tVar i)) (gName j) tt tx [j])) ss mem (.dat (.lst ((m.filter q).map f))) mem := by
  have hil : i < ss.length := (List.getElem?_eq_some_iff.mp hi).1
  have hk : (ss.set i (some (.lk m)))[i]? = some (some (.lk m)) := List.getElem?_set_self hil
  let z : List Int × D := ([], .non)
  rw [← range_filter z q f m]
  refine dt_lk i hi nl (fun _ e => nomatch e) (dt_lcIf (di_keys hk) (fun i => f (m.getD i z)) (fun i => q (m.getD i z)) few fun n hn => ?_)
  have mm : m.getD n z ∈ m := by
    rw [List.getD_eq_getElem?_getD, List.getElem?_eq_getElem hn]
    exact List.getElem_mem hn
  obtain ⟨s1, s2⟩ := step _ mm
  exact ⟨_, [j], dg_name, fun w hw => hw, s1, s2⟩
/-! ### list(xs), methods, membership of rows -/
def rListOf (K : PySem.W.Frag) : List V → Hp → VK → Prop := fun xs H Q => ∃ p ys, xs = [V.ref p] ∧ (SqL K H p ys ∨ SqT K H p ys) ∧ ∀ l, H l = none → Q (.ref l) (upd H l (.lst ys))
theorem callListOf {X : Cx} (K : PySem.W.Frag) (h : X.K = K := by rfl) : CallR X (.type "list") (rListOf K) := h ▸ call_list_of
theorem dt_listL {ds : List D} (h : DT K te ss mem (.dat (.lst ds)) m1) : DT K (tCB (rListOf K) (tCons te tNil)) ss mem (.dat (.lst ds)) m1 := fun B H al σ Q S q =>
  h B H al σ _ S fun B1 H1 al1 v P1 S1 r1 => by
    cases r1 with
    | @lst l xs _ s r =>
      refine ⟨l, xs, rfl, .inl (S1.seqL s), fun p np => ?_⟩
      obtain ⟨P2, S2⟩ := S1.lay (o := .lst xs) np
      exact q _ _ _ _ (P1.trans P2) S2 (.lst (SqL.of upd_same) (RepAll.mono P2.same _ r))
/-- .. known to lie in the heap -/
theorem dt_listR {ds : List D} (h : DT K te ss mem (.dat (.lst ds)) m1) : DT K (tCB (rListOf K) (tCons te tNil)) ss mem (.dat (.rls ds)) m1 := fun B H al σ Q S q =>
  h B H al σ _ S fun B1 H1 al1 v P1 S1 r1 => by
    cases r1 with
    | @lst l xs _ s r =>
      refine ⟨l, xs, rfl, .inl (S1.seqL s), fun p np => ?_⟩
      obtain ⟨P2, S2⟩ := S1.lay (o := .lst xs) np
      exact q _ _ _ _ (P1.trans P2) S2 (.rls upd_same (RepAll.mono P2.same _ r))
theorem dt_rls {ds : List D} (h : DT K te ss mem (.dat (.rls ds)) m1) : DT K te ss mem (.dat (.lst ds)) m1 := fun B H al σ Q S q =>
  h B H al σ _ S fun B1 H1 al1 v P1 S1 r1 => by
    cases r1 with
    | rls s r => exact q _ _ _ _ P1 S1 (.lst (SqL.of s) r)
/-- xs + [..], xs a list in the heap -/
theorem dt_catR {ds es : List D} (ha : DT K ta ss mem (.dat (.rls ds)) m1) (hb : DT K tb ss m1 (.tl es) m2) (hl : ds.length + es.length ≤ 16777216) : DT K (tOp rCat ta tb) ss mem (.tl (ds ++ es)) m2 :=
  dt_op ha hb fun B H al σ v w Q S hv hw k => by
    cases hv with
    | @rls a xs _ a2 a3 =>
      obtain ⟨b, ys, rfl, b2, b3⟩ := hw
      refine ⟨a, b, xs, ys, rfl, rfl, S.sub _ _ a2, S.sub _ _ b2, by rw [a3.len, b3.len, sizeLine_eq]; exact hl, fun p np => ?_⟩
      obtain ⟨P, S'⟩ := S.lay (o := .lst (xs ++ ys)) np
      exact k _ _ _ _ P S' ⟨p, _, rfl, upd_same, RepAll.mono P.same _ (a3.append b3)⟩
theorem RepFs.nolook {B : Hp} : ∀ {gs : List (Str × D)} {fs : List (Str × V)} {f : Str}, RepFs K B fs gs → gs.lookup f = none → fs.lookup f = none
  | [], _, _, h, _ => by cases h; rfl
  | (g, x) :: gs, _, f, h, e => by
    cases h with
    | cons h1 h2 =>
      rw [List.lookup_cons] at e ⊢
      cases q : f == g with
      | true =>
        rw [q] at e
        cases e
      | false =>
        rw [q] at e
        exact RepFs.nolook h2 e
/-- o.m(..), all of it data -/
theorem dt_meth {C : Addr} {gs : List (Str × D)} {mn : Str} {n : Nat} {R : List D → D → Prop} {E : XK} {t : TA} {ds : List D} (ho : DT K ta ss mem (.dat (.obj C gs)) m1) (hl : gs.lookup mn = none) (h : DA K t ss m1 ds m2) (hR : R (.obj C gs :: ds) d) (hn : ds.length + 1 = n := by rfl) :
    DT K (tMeth C mn (spP K n R) [] E ta t) ss mem (.dat d) m2 := fun B H al σ Q S q =>
  ho B H al σ _ S fun B1 H1 al1 v P1 S1 rv => by
    have rv' := rv
    cases rv with
    | @obj a _ dx fs _ hb rf =>
      refine ⟨a, dx, fs, rfl, S1.sub _ _ hb, rf.nolook hl, h B1 H1 al1 σ _ S1 fun B2 H2 al2 vs P2 S2 rs => ?_⟩
      refine ⟨B2, [], (D.obj C gs :: ds).map Vl.dat, [], d, [], ⟨D.obj C gs :: ds, rfl, rfl, rfl, hR⟩, by rw [List.length_map]; exact hn, rfl, ?_, fun B' H' v P S' rv => ?_⟩
      · rw [List.append_nil]
        exact pack_slots S2.sub (.cons (Rep.mono P2.same _ rv') rs)
      · obtain ⟨P3, S3⟩ := S2.after P S'.sub
        exact q _ _ _ _ ((P1.trans P2).trans P3) S3 rv
end
theorem eqv_ints : ∀ r q : List Int, PyData.eqvAll (D.pyAll (r.map .int)) (D.pyAll (q.map .int)) = decide (r = q)
  | [], [] => by simp [D.pyAll, PyData.eqvAll]
  | [], _ :: _ => by simp [D.pyAll, PyData.eqvAll]
  | _ :: _, [] => by simp [D.pyAll, PyData.eqvAll]
  | a :: r, b :: q => by
    show PyData.eqvAll ((D.int a).py :: D.pyAll (r.map .int)) ((D.int b).py :: D.pyAll (q.map .int)) = _
    rw [PyData.eqvAll, eqv_ints r q]
    by_cases h : a = b
    · by_cases g : r = q
      · simp [D.py, PyData.eqv, h, g]
      · simp [D.py, PyData.eqv, h, g]
    · simp [D.py, PyData.eqv, h]
theorem eqv_row (r q : List Int) : PyData.eqv (rowD r).py (rowD q).py = decide (r = q) := by
  show PyData.eqv (.tuple (D.pyAll (r.map .int))) (.tuple (D.pyAll (q.map .int))) = _
  rw [PyData.eqv]
  exact eqv_ints r q
theorem rows_any (k : List Int) : ∀ rows : List (List Int), ((D.pyAll (rows.map rowD)).any fun z => PyData.eqv z (rowD k).py) = decide (k ∈ rows)
  | [] => by simp [D.pyAll]
  | r :: rows => by
    show (PyData.eqv (rowD r).py (rowD k).py || (D.pyAll (rows.map rowD)).any fun z => PyData.eqv z (rowD k).py) = _
    rw [rows_any k rows, eqv_row]
    by_cases h : r = k
    · simp [h]
    · have h' : ¬ k = r := fun z => h z.symm
      simp [h, h']
theorem flat_row (k : List Int) (n : Nat) : D.flat (n + 1) (rowD k) = true := by
  show D.flatAll n (k.map .int) = true
  induction k with
  | nil => cases n <;> rfl
  | cons a k ih =>
    show (D.flat n (.int a) && D.flatAll n (k.map .int)) = true
    rw [ih]
    cases n <;> rfl
theorem flat_rows (rows : List (List Int)) (n : Nat) : D.flat (n + 2) (.lst (rows.map rowD)) = true := by
  show D.flatAll (n + 1) (rows.map rowD) = true
  induction rows with
  | nil => rfl
  | cons r rows ih =>
    show (D.flat (n + 1) (rowD r) && D.flatAll (n + 1) (rows.map rowD)) = true
    rw [ih, flat_row]
    rfl
end DL
end
section
set_option Elab.async false
set_option linter.all false
set_option maxRecDepth 100000
/-! == of two objects by their own __eq__, where it holds -/
namespace DL
open PySem PySem.Spec PyProof.Rows L2
/-- what is asked of two objects: data on which the own == answers True -/
def EqSays (K : PySem.W.Frag) (R : List D → D → Prop) : Addr → Addr → Hp → Prop := fun a b H => ∃ B d e, Same B H ∧ Rep K B (.ref a) d ∧ Rep K B (.ref b) e ∧ R [d, e] (.bl true)
abbrev rEqOwn (K : PySem.W.Frag) (C : Addr) (R : List D → D → Prop) : R2 := rEqG (DIns C (EqSays K R))
theorem opEqOwn {X : Cx} (K : PySem.W.Frag) {C f : Addr} {fd : FuncData} {ps : List Str} {n : Nat} {R : List D → D → Prop} (F : FnOk X.prog X.w X.K X.mg X.base CX0 n f fd ps (spP K 2 R)) (me : Meth X.K C "__eq__" f) (hb : Binds X.K fd ps []) (hr : Room n X.A) (hK : X.K = K := by rfl) :
    OpR X (compareOp .Eq) (rEqOwn K C R) := by
  subst hK
  refine op_eqG (rcG_ins (E := E0) (FnOk.imp F fun vs H Q E q => ?_) me.at_ me.fn hb pass0) hr
  obtain ⟨a, b, rfl, ⟨B, d, e, sub, r1, r2, hR⟩, fin⟩ := q
  refine ⟨B, [], [.dat d, .dat e], [], .bl true, [], ⟨[d, e], rfl, rfl, rfl, hR⟩, rfl, rfl, pack_slots (ds := [d, e]) sub (.cons r1 (.cons r2 .nil)), fun B' H' v P S rv => ?_⟩
  cases rv
  exact fin H' fun c o h => P.frame c o h (List.not_mem_nil)
section
variable {K : PySem.W.Frag} {ss : Sl} {mem m1 m2 : List Mc} {ta tb : TE}
/-- a heap that only grew -/
theorem Sit.grown {B H H' : Hp} {al : List Addr} {σ : L2.St} (S : Sit K B H al σ ss mem) (e : Ext H H') : Stp B H al B H' al ∧ Sit K B H' al σ ss mem := by
  have st : ∀ b, H b ≠ none → H' b ≠ none := fun b h => by
    obtain ⟨o, ho⟩ := Option.ne_none_iff_exists'.mp h
    rw [e b o ho]
    exact fun z => nomatch z
  refine ⟨⟨Same.refl B, fun b o h _ => e b o h, fun b h => .inl h, st, [], by rw [List.append_nil], fun _ h => by cases h⟩, fun b o h => e _ _ (S.sub b o h), S.len, S.slot, S.mlen, fun n a m h1 h2 => ?_, S.nd, fun a h => st a (S.there a h)⟩
  obtain ⟨o, ho⟩ := Option.ne_none_iff_exists'.mp (S.there a (List.mem_of_getElem? h1))
  exact McOk.frame ((e _ _ ho).trans ho.symm) (S.mem n a m h1 h2)
theorem dt_eqOwn {C : Addr} {gs hs : List (Str × D)} {R : List D → D → Prop} (ha : DT K ta ss mem (.dat (.obj C gs)) m1) (hb : DT K tb ss m1 (.dat (.obj C hs)) m2) (hR : R [.obj C gs, .obj C hs] (.bl true)) : DT K (tOp (rEqOwn K C R) ta tb) ss mem (.dat (.bl true)) m2 :=
  dt_op ha hb fun B H al σ v w Q S hv hw k => by
    have hv' := hv
    have hw' := hw
    cases hv with
    | @obj a _ dx fs _ ea _ =>
      cases hw with
      | @obj b _ dy gs _ eb _ =>
        refine ⟨⟨a, b, dx, dy, fs, gs, rfl, rfl, S.sub _ _ ea, S.sub _ _ eb, B, _, _, S.sub, hv', hw', hR⟩, fun H' e => ?_⟩
        obtain ⟨P2, S2⟩ := S.grown e
        exact k _ _ _ _ P2 S2 (.bl true)
end
theorem callDictPr {X : Cx} (K : PySem.W.Frag) (hc : X.calm = true) (hu : X.A.units + 2 < cLine) (h : X.K = K := by rfl) : CallR X (.type "dict") (rDictPrT K) := h ▸ call_dictPrT hc hu
theorem crMin {X : Cx} (K : PySem.W.Frag) (hc : X.calm = true := by rfl) (h : X.K = K := by rfl) : CallR X (.builtin "min") (rMin K) := h ▸ cr_min hc
/-! ### loops and comprehensions over a list, said by its items -/
theorem getD_in {α : Type} {l : List α} {i : Nat} (h : i < l.length) (z : α) : l.getD i z ∈ l := by
  rw [List.getD_eq_getElem?_getD, List.getElem?_eq_getElem h]
  exact List.getElem_mem h
theorem nthD_map {α : Type} (g : α → D) {l : List α} {i : Nat} (h : i < l.length) (z : α) : nthD (l.map g) i = g (l.getD i z) := by
  have e : (l.map g)[i]? = some (nthD (l.map g) i) := nthD_get (by rw [List.length_map]; exact h)
  rw [List.getElem?_map, List.getElem?_eq_getElem h] at e
  rw [List.getD_eq_getElem?_getD, List.getElem?_eq_getElem h]
  exact (Option.some.inj e).symm
theorem range_any {α : Type} (z : α) (q : α → Bool) (l : List α) : (List.range l.length).any (fun i => q (l.getD i z)) = l.any q := by
  conv => rhs; rw [← range_get z l]
  rw [List.any_map]
  rfl
section
variable {K : PySem.W.Frag} {ss ss1 ss2 f : Sl} {mem m1 m2 : List Mc} {ta tb te tx : TE} {r : Vl}
theorem di_map {α : Type} (g : α → D) (l : List α) (h : DT K te ss mem (.dat (.lst (l.map g))) m1) : DI K (iList K te) ss mem l.length (nthD (l.map g)) m1 := by
  have d := di_list h
  rw [List.length_map] at d
  exact d
/-- a for over a list that may answer in a turn -/
theorem ds_searchL {α : Type} {tb : TS} (g : α → D) (z : α) (l : List α) {k : Nat} (ks : List Nat) (f0 : wipeS ss ks = f) (h : DT K te f mem (.dat (.lst (l.map g))) m1) (q : α → Bool)
    (step : ∀ x ∈ l, (q x = true → DS K tb (f.set k (some (.dat (g x)))) m1 (.rt r m1)) ∧ (q x = false → ∃ s', DS K tb (f.set k (some (.dat (g x)))) m1 (.nx s' m1) ∧ wipeS s' ks = f)) :
    DS K (tFor (iList K te) (gName k) tb) ss mem (if l.any q = true then .rt r m1 else .nx f m1) := by
  rw [← range_any z q l]
  refine ds_search ks f f0 (di_map g l h) (fun i => q (l.getD i z)) fun i hi => ?_
  rw [nthD_map g hi z]
  exact step _ (getD_in hi z)
/-- [e for x in xs] -/
theorem dt_lcL {α : Type} (g : α → D) (z : α) (l : List α) {j : Nat} (h : DT K te ss mem (.dat (.lst (l.map g))) m1) (few : l.length ≤ 16777216) (v : α → D)
    (step : ∀ x ∈ l, DT K tx ((ss.set j none).set j (some (.dat (g x)))) m1 (.dat (v x)) m1) : DT K (tLc (iList K te) (gName j) tYes tx [j]) ss mem (.dat (.lst (l.map v))) m1 := by
  have e : l.map v = (List.range l.length).map fun i => v (l.getD i z) := by
    conv => lhs; rw [← range_get z l]
    rw [List.map_map]
    rfl
  rw [e]
  refine dt_lcMap (di_map g l h) _ few fun i hi => ⟨_, [j], dg_name, fun w hw => hw, ?_⟩
  rw [nthD_map g hi z]
  exact step _ (getD_in hi z)
/-- [e for x in xs], to be put together with another list -/
theorem dt_lcLT {α : Type} (g : α → D) (z : α) (l : List α) {j : Nat} (h : DT K te ss mem (.dat (.lst (l.map g))) m1) (few : l.length ≤ 16777216) (v : α → D)
    (step : ∀ x ∈ l, DT K tx ((ss.set j none).set j (some (.dat (g x)))) m1 (.dat (v x)) m1) : DT K (tLc (iList K te) (gName j) tYes tx [j]) ss mem (.tl (l.map v)) m1 := by
  have e : l.map v = (List.range l.length).map fun i => v (l.getD i z) := by
    conv => lhs; rw [← range_get z l]
    rw [List.map_map]
    rfl
  rw [e]
  refine dt_lcMapT (di_map g l h) _ few fun i hi => ⟨_, [j], dg_name, fun w hw => hw, ?_⟩
  rw [nthD_map g hi z]
  exact step _ (getD_in hi z)
/-- [x for x in xs if t] -/
theorem dt_lcFL {α : Type} (g : α → D) (z : α) (l : List α) {j : Nat} {tt : TT} (h : DT K te ss mem (.dat (.lst (l.map g))) m1) (few : l.length ≤ 16777216) (q : α → Bool) (v : α → D)
    (step : ∀ x ∈ l, DB K tt ((ss.set j none).set j (some (.dat (g x)))) m1 (q x) m1 ∧ (q x = true → DT K tx ((ss.set j none).set j (some (.dat (g x)))) m1 (.dat (v x)) m1)) : DT K (tLc (iList K te) (gName j) tt tx [j]) ss mem (.dat (.lst ((l.filter q).map v))) m1 := by
  rw [← range_filter z q v l]
  refine dt_lcIf (di_map g l h) (fun i => v (l.getD i z)) (fun i => q (l.getD i z)) few fun i hi => ?_
  rw [nthD_map g hi z]
  obtain ⟨a, b⟩ := step _ (getD_in hi z)
  exact ⟨_, [j], dg_name, fun w hw => hw, a, b⟩
theorem dt_allL {α : Type} (g : α → D) (z : α) (l : List α) {j : Nat} (h : DT K te ss mem (.dat (.lst (l.map g))) m1) (few : l.length ≤ 16777216) (q : α → Bool)
    (step : ∀ x ∈ l, DT K tx ((ss.set j none).set j (some (.dat (g x)))) m1 (.dat (.bl (q x))) m1) : DT K (tCB (rAll K) (tCons (tLc (iList K te) (gName j) tYes tx [j]) tNil)) ss mem (.dat (.bl (l.all q))) m1 := by
  have e : l.all q = (l.map q).all id := by rw [List.all_map]; rfl
  rw [e]
  refine dt_all ?_
  have a := dt_lcL (tx := tx) g z l h few (fun x => .bl (q x)) step
  rw [show (l.map fun x => D.bl (q x)) = (l.map q).map D.bl by rw [List.map_map]; rfl] at a
  exact a
theorem dt_anyL {α : Type} (g : α → D) (z : α) (l : List α) {j : Nat} (h : DT K te ss mem (.dat (.lst (l.map g))) m1) (few : l.length ≤ 16777216) (q : α → Bool)
    (step : ∀ x ∈ l, DT K tx ((ss.set j none).set j (some (.dat (g x)))) m1 (.dat (.bl (q x))) m1) : DT K (tCB (rAny K) (tCons (tLc (iList K te) (gName j) tYes tx [j]) tNil)) ss mem (.dat (.bl (l.any q))) m1 := by
  have e : l.any q = (l.map q).any id := by rw [List.any_map]; rfl
  rw [e]
  refine dt_any ?_
  have a := dt_lcL (tx := tx) g z l h few (fun x => .bl (q x)) step
  rw [show (l.map fun x => D.bl (q x)) = (l.map q).map D.bl by rw [List.map_map]; rfl] at a
  exact a
/-- a for over a dict's keys that may answer in a turn -/
theorem ds_searchKeys {i k : Nat} {tb : TS} {m : List (List Int × D)} {fl : Sl} (ks : List Nat) (hi : ss[i]? = some (some (.dat (.dic m)))) (nl : NoLk ss) (f0 : wipeS (ss.set i (some (.lk m))) ks = fl) (hk : fl[i]? = some (some (.lk m))) (nl1 : NoLk (fl.set i (some (.dat (.dic m))))) (hr : ∀ m', r ≠ .lk m') (q : List Int × D → Bool)
    (step : ∀ p ∈ m, (q p = true → DS K tb (fl.set k (some (.dat (rowD p.1)))) mem (.rt r mem)) ∧ (q p = false → ∃ s', DS K tb (fl.set k (some (.dat (rowD p.1)))) mem (.nx s' mem) ∧ wipeS s' ks = fl)) :
    DS K (tLkS (tFor (iKeys (tVar i)) (gName k) tb)) ss mem (if m.any q = true then .rt r mem else .nx (fl.set i (some (.dat (.dic m)))) mem) := by
  let z : List Int × D := ([], .non)
  have s := ds_search (K := K) (tb := tb) (k := k) (ss := ss.set i (some (.lk m))) (r := r) ks fl f0 (di_keys hk) (fun i => q (m.getD i z)) fun i hi => step _ (getD_in hi z)
  rw [range_any z q m] at s
  by_cases h : m.any q = true
  · rw [if_pos h] at s ⊢
    exact ds_lkR i hi nl hr s
  · rw [if_neg h] at s ⊢
    exact ds_lkN i hi nl hk nl1 s
/-- all(.. for k in d), d a dict -/
theorem dt_allKeys {i j : Nat} {m : List (List Int × D)} (hi : ss[i]? = some (some (.dat (.dic m)))) (nl : NoLk ss) (few : m.length ≤ 16777216) (q : List Int × D → Bool)
    (step : ∀ p ∈ m, DT K tx (((ss.set i (some (.lk m))).set j none).set j (some (.dat (rowD p.1)))) mem (.dat (.bl (q p))) mem) : DT K (tCB (rAll K) (tCons (tLkE (tLc (iKeys (tVar i)) (gName j) tYes tx [j])) tNil)) ss mem (.dat (.bl (m.all q))) mem := by
  have e : m.all q = (m.map q).all id := by rw [List.all_map]; rfl
  rw [e]
  refine dt_all ?_
  have a := dt_lcKeys (K := K) (tt := tYes) (tx := tx) (j := j) hi nl few (fun _ => true) (fun p => .bl (q p)) fun p hp => ⟨db_yes, fun _ => step p hp⟩
  rw [List.filter_eq_self.mpr fun _ _ => rfl, show (m.map fun p => D.bl (q p)) = (m.map q).map D.bl by rw [List.map_map]; rfl] at a
  exact a
theorem dt_minL {ns : List Int} {m : Int} (h : DT K te ss mem (.dat (.lst (ns.map .int))) m1) (inn : m ∈ ns) (least : ∀ y ∈ ns, m ≤ y) : DT K (tCB (rMin K) (tCons te tNil)) ss mem (.dat (.int m)) m1 := fun B H al σ Q S k =>
  h B H al σ _ S fun B1 H1 al1 v P1 S1 r1 => by
    cases r1 with
    | @lst a xs _ s r =>
      cases r.ints
      refine ⟨a, ns, rfl, S1.seqL s, List.length_pos_of_mem inn, fun m' h1 h2 => ?_⟩
      have e : m = m' := Int.le_antisymm (least m' h1) (h2 m inn)
      rw [← e]
      exact k _ _ _ _ P1 S1 (.int _)
end
end DL
end
section
set_option Elab.async false
set_option linter.all false
set_option maxRecDepth 100000
/-! list(x), x whatever can be walked: it begins empty and is extended -/
namespace DL
open PySem PySem.Spec PyProof.Rows L2
section
variable {prog : Program} {w : World} {A : Around} {E : Value → Shared → Prop} {s : Shared}
abbrev emptyL (c : Nat) : Obj := { cls := .type "list", dict := none, data := .seq #[] c, slots := #[] }
/-- how the built-in ends: with the new list -/
abbrev fin1 (Q : Value → Shared → Prop) (E : Value → Shared → Prop) (l : Addr) : Result → Shared → Prop := wants (fun r t => r = .none ∧ Q (.ref l) t) E
theorem list_by {x : Value} {Q : Value → Shared → Prop}
    (ext : ∀ h c, h.get? s.heap.objs.size = some (emptyL c) → (∀ b o, s.heap.get? b = some o → h.get? b = some o) →
      wpAny (model prog w) A.in1.in1 (Builtin.List.listExtendWith (.ref s.heap.objs.size) x .none)
        (fun fin t => match fin with | .done f => fin1 Q E s.heap.objs.size (.ok f) t | .again c' => c'.quiet = true ∧ codeAny (model prog w) A.in1 c' (fin1 Q E s.heap.objs.size) t)
        (fun e t => fin1 Q E s.heap.objs.size (.error e) t) { s with heap := h }) : wpAny (model prog w) A (call (.type "list") [x]) Q E s := by
  refine callType_codes (Q₁ := fun o t => o = .ref s.heap.objs.size ∧ t = { s with heap := s.heap.push (emptyL 0) }) F.called_list (F.typeCall_list_1 _) F.entry_list_init (code_list_new _ ⟨rfl, rfl⟩) ?_
  rintro _ _ ⟨rfl, rfl⟩
  have new : (s.heap.push (emptyL 0)).get? s.heap.objs.size = some (emptyL 0) := Heap.get?_push_size _ rfl
  have old : ∀ b o, s.heap.get? b = some o → (s.heap.push (emptyL 0)).get? b = some o := fun _ _ => Heap.get?_push_of_some _
  generalize s.heap.push (emptyL 0) = h0 at new old ⊢
  have still : ∀ b o, s.heap.get? b = some o → (h0.update s.heap.objs.size (Obj.mapSeq fun _ => #[])).get? b = some o := fun b o e => (Heap.get?_update_other _ _ (Nat.ne_of_gt (Heap.lt_size e))).trans (old b o e)
  refine ⟨⟨emptyL 0, new, rfl⟩, F.args_list_init_2 _ _, ?_⟩
  change wpAny _ _ (Builtin.List.listItems (.ref s.heap.objs.size) >>= fun was => Builtin.List.listUpdate (.ref s.heap.objs.size) (fun _ => #[]) >>= fun _ => letGo was.toList.reverse >>= fun _ => Builtin.List.listExtendWith (.ref s.heap.objs.size) x .none) _ _ _
  unfold Builtin.List.listItems
  refine wpAny_bind (wpAny_bind (wpAny_seqItems new rfl (wpAny_pure ?_)))
  exact wpAny_bind (wpAny_updateSeq new rfl (wpAny_bind (wpAny_letGo (ext _ _ (Heap.get?_update_self _ new rfl) still))))
end
section
variable {X : Cx}
/-- list(d.items()): a new list of new pairs -/
def rListIt : List V → Hp → VK → Prop := fun xs H Q => ∃ (p a : Addr) (kvs : List (List L2.Key × V)), xs = [.ref p] ∧ H p = some (L2.DX.itemsO p a) ∧ Rd H a (.dT kvs) ∧
  ∀ (H' : Hp) (l : Addr) (ts : List Addr), (∀ b o, H b = some o → H' b = some o) → H l = none → (∀ t ∈ ts, H t = none) → l ∉ ts → ts.Nodup → ts.length = kvs.length → H' l = some (.lst (ts.map V.ref)) →
    (∀ (j : Nat) t, ts[j]? = some t → ∃ k v b, kvs[j]? = some (k, v) ∧ H' t = some (.tup [.ref b, v]) ∧ H b = some (.tup (k.map kV))) → Q (.ref l) H'
theorem call_listIt (hc : X.calm = true) : CallR X (.type "list") rListIt := by
  rintro pins s σ H _ us Q I rel ⟨p, a, kvs, rfl, hp, ha, fin⟩
  obtain ⟨_, rfl, ru⟩ := rel.one
  cases ru
  have view : s.heap.IsItemsView p a := (show ObjOk X.prog X.w H s.heap p (L2.DX.itemsO p a) from I.hok p _ hp).1
  obtain ⟨few, -, xs, kt, o, es, ep, at_, ex, dat, ents, -, -⟩ := dt_rd I.hok ha
  have lx : xs.length = kvs.length := (Paired.length kt).symm
  have le : es.size = xs.length := size_of_entries ents
  refine list_by fun h c new kept => ?_
  have pS : s.heap.objs.size ≠ p := fun z => by
    obtain ⟨o, ho, -⟩ := view
    exact Nat.lt_irrefl _ (z ▸ Heap.lt_size ho)
  have aS : a ≠ s.heap.objs.size := fun z => Nat.lt_irrefl _ (z ▸ Heap.lt_size at_)
  refine DT.extI (A := X.A.in1) (s := { s with heap := h }) (es := es) (ep := ep) (I.ok.hd hc) (let ⟨o, ho, hx⟩ := view; ⟨o, kept _ _ ho, hx⟩) ⟨o, kept _ _ at_, ex, dat⟩ s.heap.objs.size pS aS .none c new (fun h' tk acc c' as keep now la made ea => ?_) (by omega)
  refine ⟨rfl, ?_⟩
  have all : ∀ b u, s.heap.get? b = some u → h'.get? b = some u := fun b u e => keep b u (Nat.ne_of_lt (Heap.lt_size e)) (kept b u e)
  have hl0 : s.heap.objs.size < h.objs.size := Heap.lt_size new
  have low : ∀ t ∈ as, s.heap.objs.size < t := fun t ht => Nat.lt_trans hl0 (made.above t ht)
  have nd : as.Nodup := List.Pairwise.imp (fun h => Nat.ne_of_lt h) made.rise
  have lak : as.length = kvs.length := by omega
  have nS : H s.heap.objs.size = none := I.hok.fresh (Nat.le_refl _)
  have nT : ∀ t ∈ as, H t = none := fun t ht => I.hok.fresh (Nat.le_of_lt (low t ht))
  have refs : ∀ l : List Addr, Vals (l.map V.ref) (l.map Value.ref) := fun l => by
    induction l with
    | nil => exact .nil
    | cons x l ih => exact .cons rfl ih
  have I1 : Inv X pins σ (upd H s.heap.objs.size (.lst (as.map V.ref))) { s with heap := h', toks := tk } :=
    I.laid (t' := tk) all (Nat.le_refl _) ⟨by rw [List.length_map]; omega, acc.toList, c', by rw [ea]; exact refs as, by rw [Array.toArray_toList]; exact now⟩
  -- the pairs that were made
  have pr : ∀ (j : Nat) (t : Addr), as[j]? = some t → ∃ k v b u, kvs[j]? = some (k, v) ∧ H b = some (.tup (k.map kV)) ∧ RelV v u ∧ h'.get? t = some { cls := .type "tuple", data := .seq #[Value.ref b, u] } := fun j t ht => by
    obtain ⟨en, he, hg⟩ := made.pairs j t ht
    rw [entry_at ents j] at he
    obtain ⟨x, hx, rfl⟩ := Option.map_eq_some_iff.mp he
    obtain ⟨⟨k, v⟩, hk, r1, r2, r3⟩ := L2.DX.pget kt hx
    exact ⟨k, v, x.2.1, x.2.2, hk, r2, r3, hg⟩
  obtain ⟨H2, I2, g, qt⟩ := L2.DX.takeT (P := fun t vs => ∃ (j : Nat) (k : List L2.Key) (v : V) (b : Addr), as[j]? = some t ∧ kvs[j]? = some (k, v) ∧ vs = [.ref b, v] ∧ H b = some (.tup (k.map kV))) I as _ I1 nd fun t ht => by
    obtain ⟨j, hj⟩ := List.mem_iff_getElem?.mp ht
    obtain ⟨k, v, b, u, hk, hb, rv, hg⟩ := pr j t hj
    refine ⟨Nat.le_of_lt (low t ht), by rw [upd_ne (Nat.ne_of_gt (low t ht))]; exact nT t ht, [.ref b, v], ⟨j, k, v, b, hj, hk, rfl, hb⟩, fun H3 => ⟨by rw [sizeLine_eq]; show 2 ≤ 16777216; omega, [Value.ref b, u], .cons rfl (.cons rv .nil), ⟨_, hg, rfl, 0, rfl⟩⟩⟩
  have gr : ∀ b u, H b = some u → H2 b = some u := fun b u e => g b u (by rw [upd_ne (ne_of_none e nS)]; exact e)
  refine ⟨.ref s.heap.objs.size, H2, I2, rfl, fin H2 _ as gr nS nT (fun z => Nat.lt_irrefl _ (low _ z)) nd lak (g _ _ upd_same) fun j t ht => ?_⟩
  obtain ⟨vs, ⟨i, k, v, b, hi, hk, ev, hb⟩, hH⟩ := qt t (List.mem_of_getElem? ht)
  have eij : i = j := (List.getElem?_inj (List.getElem?_eq_some_iff.mp hi).1 nd).mp (hi.trans ht.symm)
  subst eij
  rw [ev] at hH
  exact ⟨k, v, b, hk, hH, hb⟩
/-- d.items(), d read alone -/
def tItemsR (te : TE) : TE := fun σ H Q => te σ H fun x H1 => ∃ (a : Addr) (kvs : List (List L2.Key × V)), x = .ref a ∧ Rd H1 a (.dT kvs) ∧ ∀ p, H1 p = none → Q (.ref p) (upd H1 p (L2.DX.itemsO p a))
theorem pe_itemsR {e : Expr} {te : TE} {apos cpos : Pos} (he : PE X e te) (hbase : attributeBase e "items" X.env (eval e X.env) = eval e X.env := by rfl) (hline : (apos.endLine == cpos.line) = true := by rfl) :
    PE X (.Call (.Attribute e "items" apos) [] [] cpos) (tItemsR te) := ⟨fun pins s σ H Q I q => wpAny_Call_method0_late hbase hline (thn (he.run pins s σ H _ I q) fun v s1 got => by
  obtain ⟨x, H1, I1, rx, a, kvs, rfl, rd, fin⟩ := got
  cases rx
  obtain ⟨-, low, -, -, o, es, ep, at_, ex, dat, -, -, -⟩ := dt_rd I1.hok rd
  have new := I1.hok.fresh (Nat.le_refl _)
  refine ⟨"dict", "dict.items", F.plainAttrs_dict, F.slot_dict_items, F.type_dict_items, ⟨o, at_, ex.1⟩, fun b z => ?_, Calls.callWith_builtin rfl (PySem.evalArgs_none (DT.callItems (es := es) (ep := ep) low ⟨o, at_, ex, dat⟩ ⟨.ref s1.heap.objs.size, _, I1.laid (t' := s1.toks) (fun b u e => Heap.get?_push_of_some _ e) (Nat.le_refl _) (L2.DX.itemsO_ok (Heap.get?_push_size _ rfl)), rfl, fin _ new⟩))⟩
  cases z
  exact ⟨o, at_, ex.2.1⟩)⟩
end
end DL
end
section
set_option Elab.async false
set_option linter.all false
set_option maxRecDepth 100000
/-! list(d.items()), said of data -/
namespace DL
open PySem PySem.Spec PyProof.Rows L2
section
variable {K : PySem.W.Frag} {ss : Sl} {mem m1 m2 : List Mc} {td te : TE} {x : Vl} {m : List (List Int × D)}
/-- objects that are laid all at once, as data -/
theorem Sit.layAll {B H H' : Hp} {al : List Addr} {σ : L2.St} (S : Sit K B H al σ ss mem) (gr : ∀ b o, H b = some o → H' b = some o) : ∀ (ls : List (Addr × HO)), (∀ p ∈ ls, H p.1 = none ∧ H' p.1 = some p.2) →
    ∃ B', Stp B H al B' H' al ∧ Sit K B' H' al σ ss mem ∧ ∀ p ∈ ls, B' p.1 = some p.2
  | [], _ => by
    have st : ∀ b, H b ≠ none → H' b ≠ none := fun b h => by
      obtain ⟨o, ho⟩ := Option.ne_none_iff_exists'.mp h
      rw [gr b o ho]
      exact fun z => nomatch z
    obtain ⟨P, S'⟩ := S.grown (H' := H') gr
    exact ⟨B, P, S', fun p h => by cases h⟩
  | p :: ls, h => by
    obtain ⟨B1, P1, S1, at1⟩ := Sit.layAll S gr ls fun q hq => h q (List.mem_cons_of_mem _ hq)
    obtain ⟨hn, hp⟩ := h p List.mem_cons_self
    rcases Option.eq_none_or_eq_some (B1 p.1) with nb | ⟨o, eb⟩
    · have sB : Same B1 (upd B1 p.1 p.2) := fun c u e => by rw [upd_ne (ne_of_none e nb)]; exact e
      have nal : p.1 ∉ al := fun z => S.there _ z hn
      refine ⟨upd B1 p.1 p.2, ⟨P1.same.trans sB, P1.frame, fun c z => ?_, P1.stay, P1.ext⟩, ⟨fun c u e => ?_, S1.len, fun i r e => ?_, S1.mlen, fun n c q e1 e2 => ?_, S1.nd, S1.there⟩, fun q hq => ?_⟩
      · by_cases e : c = p.1
        · exact .inr (.inl (e ▸ hn))
        · rw [upd_ne e] at z
          exact P1.fresh c z
      · by_cases z : c = p.1
        · subst z
          rw [upd_same] at e
          exact hp.trans e
        · rw [upd_ne z] at e
          exact S1.sub c u e
      · obtain ⟨v, h1, h2⟩ := S1.slot i r e
        refine ⟨v, h1, ?_⟩
        cases r with
        | dat d => exact Rep.mono sB d h2
        | own n => exact h2
        | tl ds => exact h2.imp fun a z => z.imp fun xs y => ⟨y.1, sB _ _ y.2.1, RepAll.mono sB ds y.2.2⟩
        | lk ds =>
          obtain ⟨a, o', kvs, z1, z2, z3⟩ := h2
          exact ⟨a, o', kvs, z1, sB _ _ z2, RepKv.mono sB ds z3⟩
      · exact (S1.mem n c q e1 e2).grow sB (upd_ne fun z => nal (z ▸ List.mem_of_getElem? e1))
      · by_cases e : q.1 = p.1
        · rcases List.mem_cons.mp hq with z | z
          · rw [z, upd_same]
          · have := at1 q z
            rw [e, nb] at this
            cases this
        · rw [upd_ne e]
          rcases List.mem_cons.mp hq with z | z
          · exact absurd (by rw [z]) e
          · exact at1 q z
    · refine ⟨B1, P1, S1, fun q hq => ?_⟩
      rcases List.mem_cons.mp hq with z | z
      · rw [z, eb]
        have := S1.sub _ _ eb
        rw [hp] at this
        exact this.symm
      · exact at1 q z
theorem dt_listIt (hd : DT K td ss mem x m1) (hm : IsDic m1 x m) : DT K (tCB rListIt (tCons (tItemsR td) tNil)) ss mem (.dat (.rls (m.map pairD))) m1 := fun B H al σ Q S q =>
  hd B H al σ _ S fun B1 H1 al1 v P1 S1 r1 => by
    obtain ⟨a, kvs, rfl, rd, rk⟩ := dic_at S1 r1 hm
    refine ⟨a, kvs, rfl, rd, fun p np => ?_⟩
    have g0 : ∀ b o, H1 b = some o → upd H1 p (L2.DX.itemsO p a) b = some o := fun b o e => by rw [upd_ne (ne_of_none e np)]; exact e
    obtain ⟨P2, S2⟩ := S1.grown (H' := upd H1 p (L2.DX.itemsO p a)) g0
    refine ⟨p, a, kvs, rfl, upd_same, ?_, fun H' l ts gr nl nts lts nd len el et => ?_⟩
    · rcases rd with rd | ⟨o, rd⟩
      · exact .inl (g0 _ _ rd)
      · exact .inr ⟨o, g0 _ _ rd⟩
    have pick : ∀ t ∈ ts, ∃ o, H' t = some o := fun t ht => by
      obtain ⟨j, hj⟩ := List.mem_iff_getElem?.mp ht
      obtain ⟨k, v, b, -, h, -⟩ := et j t hj
      exact ⟨_, h⟩
    obtain ⟨B3, P3, S3, at3⟩ := S2.layAll gr ((l, .lst (ts.map V.ref)) :: ts.map fun t => (t, (H' t).getD (.lst []))) fun z hz => by
      rcases List.mem_cons.mp hz with e | e
      · rw [e]
        exact ⟨nl, el⟩
      · obtain ⟨t, ht, rfl⟩ := List.mem_map.mp e
        obtain ⟨o, ho⟩ := pick t ht
        exact ⟨nts t ht, by show H' t = some ((H' t).getD _); rw [ho]; rfl⟩
    -- the key tuples
    have keys : ∀ (m : List (List Int × D)) (kvs : List (List L2.Key × V)) (ts : List Addr) (B : Hp), Same B H' → RepKv K B kvs m → ts.length = kvs.length → (∀ (j : Nat) t, ts[j]? = some t → ∃ k v b, kvs[j]? = some (k, v) ∧ B t = some (.tup [.ref b, v]) ∧ H' b = some (.tup (k.map kV))) →
        ∃ bs : List Addr, IsKeys H' kvs bs ∧ bs.length = ts.length ∧ ∀ (j : Nat) t, ts[j]? = some t → ∃ k v b, kvs[j]? = some (k, v) ∧ B t = some (.tup [.ref b, v]) ∧ bs[j]? = some b := fun m => by
      induction m with
      | nil =>
        intro kvs ts B _ rk len _
        cases rk
        have : ts = [] := List.length_eq_zero_iff.mp len
        subst this
        exact ⟨[], .nil, rfl, fun j t e => by simp at e⟩
      | cons p m ih =>
        intro kvs ts B sb rk len h
        cases rk with
        | cons r1 r2 =>
          cases ts with
          | nil => simp at len
          | cons t ts =>
            obtain ⟨bs, k1, k2, k3⟩ := ih _ ts B sb r2 (by simpa using len) fun j t e => h (j + 1) t (by simpa using e)
            obtain ⟨k, v, b, e1, e2, e3⟩ := h 0 t rfl
            cases Option.some.inj e1
            refine ⟨b :: bs, .cons e3 k1, by simp [k2], fun j t' e => ?_⟩
            cases j with
            | zero => exact ⟨_, _, b, rfl, Option.some.inj e ▸ e2, rfl⟩
            | succ j =>
              obtain ⟨k', v', b', a1, a2, a3⟩ := k3 j t' (by simpa using e)
              exact ⟨k', v', b', by simpa using a1, a2, by simpa using a3⟩
    have atT : ∀ t ∈ ts, B3 t = H' t := fun t ht => by
      have z := at3 (t, (H' t).getD (.lst [])) (List.mem_cons_of_mem _ (List.mem_map_of_mem ht))
      obtain ⟨o, ho⟩ := pick t ht
      rw [ho] at z ⊢
      exact z
    obtain ⟨bs, ks, lb, bt⟩ := keys m kvs ts B3 S3.sub (RepKv.mono (P2.trans P3).same m rk) len fun j t e => by
      obtain ⟨k, v, b, h1, h2, h3⟩ := et j t e
      exact ⟨k, v, b, h1, (atT t (List.mem_of_getElem? e)).trans h2, gr _ _ h3⟩
    obtain ⟨B4, P4, S4, ra⟩ := S3.takeKeys (RepKv.mono (P2.trans P3).same m rk) ks
    have rk4 := RepKv.mono ((P2.trans P3).trans P4).same m rk
    -- the pairs
    have pairs : ∀ (m : List (List Int × D)) (kvs : List (List L2.Key × V)) (ts bs : List Addr), RepKv K B4 kvs m → RepAll K B4 (bs.map V.ref) (m.map fun p => rowD p.1) → ts.length = kvs.length → bs.length = ts.length →
        (∀ (j : Nat) t, ts[j]? = some t → ∃ k v b, kvs[j]? = some (k, v) ∧ B4 t = some (.tup [.ref b, v]) ∧ bs[j]? = some b) → RepAll K B4 (ts.map V.ref) (m.map pairD) := fun m => by
      induction m with
      | nil =>
        intro kvs ts bs rk _ l1 _ _
        cases rk
        have : ts = [] := List.length_eq_zero_iff.mp l1
        subst this
        exact .nil
      | cons p m ih =>
        intro kvs ts bs rk ra l1 l2 h
        cases rk with
        | cons r1 r2 =>
          cases ts with
          | nil => simp at l1
          | cons t ts =>
            cases bs with
            | nil => simp at l2
            | cons b bs =>
              cases ra with
              | cons a1 a2 =>
                obtain ⟨k, v, b', e1, e2, e3⟩ := h 0 t rfl
                cases Option.some.inj e1
                cases Option.some.inj e3
                exact .cons (.tup e2 (.cons a1 (.cons r1 .nil))) (ih _ ts bs r2 a2 (by simpa using l1) (by simpa using l2) fun j t' e => by
                  obtain ⟨k', v', b'', x1, x2, x3⟩ := h (j + 1) t' (by simpa using e)
                  exact ⟨k', v', b'', by simpa using x1, x2, by simpa using x3⟩)
    have pr := pairs m kvs ts bs rk4 ra len lb fun j t e => by
      obtain ⟨k, v, b, x1, x2, x3⟩ := bt j t e
      exact ⟨k, v, b, x1, P4.same _ _ x2, x3⟩
    have el4 : B4 l = some (.lst (ts.map V.ref)) := P4.same _ _ (at3 _ List.mem_cons_self)
    exact q _ _ _ _ (((P1.trans P2).trans P3).trans P4) S4 (.rls el4 pr)
end
end DL
end
section
set_option Elab.async false
set_option linter.all false
set_option maxRecDepth 100000
/-! list(o), o's own `__iter__` gives a list's iterator -/
namespace DL
open PySem PySem.Spec PyProof.Rows L2
theorem upd_comm {H : Hp} {a b : Addr} {x y : HO} (h : a ≠ b) : upd (upd H a x) b y = upd (upd H b y) a x := by
  funext c
  by_cases e1 : c = a
  · subst e1
    rw [upd_ne h, upd_same, upd_same]
  · by_cases e2 : c = b
    · subst e2
      rw [upd_same, upd_ne e1, upd_same]
    · rw [upd_ne e2, upd_ne e1, upd_ne e1, upd_ne e2]
theorem sqL_upd {K : PySem.W.Frag} {H : Hp} {a b : Addr} {o : HO} {xs : List V} (h : SqL K H a xs) (n : a ≠ b) : SqL K (upd H b o) a xs := by
  unfold SqL Rd at h ⊢
  simp only [upd_ne n]
  exact h
/-- what such an `__iter__` promises: a new iterator over the list in the field -/
def spItL (K : PySem.W.Frag) (C : Addr) (f : Str) : Sp := fun vs H Q _ => ∃ a dx fs l zs, vs = [.ref a] ∧ H a = some (.ins C dx fs) ∧ fs.lookup f = some (.ref l) ∧ SqL K H l zs ∧ ∀ it, H it = none → Q (.ref it) (upd H it (ItO l it 0))
/-- what is asked of the class: its `__iter__`, and that nothing tells a length -/
structure ItL (K : PySem.W.Frag) (C fi : Addr) : Prop where
  walk : Meth K C "__iter__" fi
  bare : NoAttr K C "__len__" ∧ NoAttr K C "__length_hint__"
/-- list(o) -/
def rListO (K : PySem.W.Frag) (C : Addr) (f : Str) : List V → Hp → VK → Prop := fun xs H Q => ∃ a dx fs l zs, xs = [.ref a] ∧ H a = some (.ins C dx fs) ∧ fs.lookup f = some (.ref l) ∧ SqL K H l zs ∧ (∃ u, H l = some u) ∧ ∀ q, H q = none → Q (.ref q) (upd H q (.lst zs))
section
variable {X : Cx} {C fi : Addr} {f : Str} {fdI : FuncData} {psI : List Str} {n : Nat}
/-- a turn of the loop that fills a list -/
theorem loop_body {A1 : Around} {q it : Addr} {Rs : Result → Shared → Prop} {s : Shared} (h : wpAny (model X.prog X.w) A1.in1 (pyNext (.ref it)) (fun r t => wpAny (model X.prog X.w) A1.in1 (match r with
      | none => ret .none
      | some u => updateSeq q (·.push u) >>= fun _ => again (.builtin "list.extend.loop" ⟨[.ref q, .ref it, .none], []⟩)) (fun fin t' => match fin with | .done f => Rs (.ok f) t' | .again c' => c'.quiet = true ∧ codeAny (model X.prog X.w) A1 c' Rs t') (fun e t' => Rs (.error e) t') t) (fun e t => Rs (.error e) t) s) :
    codeAny (model X.prog X.w) A1 (.builtin "list.extend.loop" ⟨[.ref q, .ref it, .none], []⟩) Rs s := by
  refine codeAny_builtin PySem.F.entry_extend_loop ?_
  rw [Around.under_plainId (A := A1) PySem.F.plain_extend_loop]
  exact wpAny_bind (wpAny_mono h (fun r t z => by cases r <;> exact z) fun _ _ z => z)
/-- an empty list's room is tried: it stays empty -/
theorem touch_ok {pins : List (Addr × Obj)} {σ : L2.St} {A1 : Around} {Q : Unit → Shared → Prop} {E : Value → Shared → Prop} {q : Addr} {H : Hp} {s : Shared} (I : Inv X pins σ H s) (hq : H q = some (.lst [])) (h : ∀ t, Inv X pins σ H t → Q () t) :
    wpAny (model X.prog X.w) A1 (Builtin.List.listTouch (.ref q)) Q E s := by
  obtain ⟨-, vs, c, rel, -, at_⟩ := I.lstM hq
  cases rel
  have one := I.lset (f := fun a => a.push Value.none) (its' := [Value.none]) (ys := [V.non]) (t' := s.toks) hq at_ rfl (.cons rfl .nil) (show 1 ≤ sizeLine by rw [sizeLine_eq]; decide)
  obtain ⟨-, us, c', rel', -, at'⟩ := one.lstM upd_same
  obtain ⟨u, rfl, -⟩ := rel'.one
  have two := one.lset (f := fun a => a.pop) (its := [u]) (its' := []) (ys := []) (t' := s.toks) upd_same at' rfl .nil (Nat.zero_le _)
  have same : upd H q (.lst []) = H := funext fun b => by
    rcases Decidable.em (b = q) with e | e
    · rw [e, upd_same, hq]
    · exact upd_ne e
  rw [upd_upd, same] at two
  change wpAny _ _ (Bind.bind (updateSeq q fun a => a.push .none) fun _ => updateSeq q fun a => a.pop) _ _ _
  exact wpAny_bind (wpAny_updateSeq at_ rfl (wpAny_updateSeq at' rfl (h _ two) (show 1 ≤ sizeLine by rw [sizeLine_eq]; decide) (show 0 ≤ sizeLine + 1 from Nat.zero_le _)))
theorem loop_listO {pins : List (Addr × Obj)} {σ : L2.St} {A1 : Around} {Rs : Result → Shared → Prop} {q it l : Addr} {zs : List V} {H : Hp} (hc : A1.in1.handled = none) (hql : l ≠ q) (hit : l ≠ it) (hqi : q ≠ it) (nit : H it = none)
    (hH : SqL X.K H l zs) (hz : zs.length ≤ sizeLine) (hdone : ∀ s, Inv X pins σ (upd H q (.lst zs)) s → Rs (.ok (.ret .none)) s) :
    ∀ (k i : Nat) (s : Shared), zs.length - i = k → i ≤ zs.length → Inv X pins σ (upd (upd H q (.lst (zs.take i))) it (ItO l it i)) s → codeAny (model X.prog X.w) A1 (.builtin "list.extend.loop" ⟨[.ref q, .ref it, .none], []⟩) Rs s := by
  intro k
  induction k with
  | zero =>
    intro i s hk hi I
    have ei : i = zs.length := by omega
    subst ei
    rw [List.take_length] at I
    refine loop_body ?_
    obtain ⟨its, rv, pl, -⟩ := I.list (sqL_upd (sqL_upd hH hql) hit)
    have atI : upd (upd H q (.lst zs)) it (ItO l it zs.length) it = some (ItO l it zs.length) := upd_same
    have mu : Mut (upd (upd H q (.lst zs)) it (ItO l it zs.length) it) := by rw [atI]; exact True.intro
    refine DSub.py_end hc (itO_get I atI) pl.isList (by rw [List.getElem?_toArray]; exact rv.none_of (List.getElem?_eq_none (Nat.le_refl _))) fun h' e1 eb => ?_
    have I2 : Inv X pins σ (upd (upd H q (.lst zs)) it (ItE it zs.length)) { s with heap := h' } := by
      have J := I.write (x := it) (e := it) (t' := s.toks) mu (.inl rfl) (fun b o nb z => eb b o nb z) ⟨_, e1⟩ (itE_ok e1)
      rw [upd_upd] at J
      exact J
    have I5 := ItX.inv_drop (a := it) (φ := fun h => h.get? it = some (GNX.itEnd zs.length)) I2 upd_same
    rw [ItX.dropH_upd (by rw [upd_ne (Ne.symm hqi)]; exact nit)] at I5
    exact wpAny_pure (hdone _ I5)
  | succ k ih =>
    intro i s hk hi I
    have lt : i < zs.length := by omega
    refine loop_body ?_
    obtain ⟨its, rv, pl, -⟩ := I.list (sqL_upd (sqL_upd hH hql) hit)
    have atI : upd (upd H q (.lst (zs.take i))) it (ItO l it i) it = some (ItO l it i) := upd_same
    have mu : Mut (upd (upd H q (.lst (zs.take i))) it (ItO l it i) it) := by rw [atI]; exact True.intro
    obtain ⟨w', hw, rw'⟩ := rv.get (List.getElem?_eq_getElem lt)
    refine DSub.py_item (itO_get I atI) pl.isList (by rw [List.getElem?_toArray]; exact hw) fun h' e1 sb => ?_
    have I2 : Inv X pins σ (upd (upd H q (.lst (zs.take i))) it (ItO l it (i + 1))) { s with heap := h' } := by
      have J := I.write (x := it) (e := it) (t' := s.toks) mu (.inl rfl) (fun b o nb z => (sb.2 b nb).trans z) ⟨_, e1⟩ (itO_ok e1)
      rw [upd_upd] at J
      exact J
    have atq : upd (upd H q (.lst (zs.take i))) it (ItO l it (i + 1)) q = some (.lst (zs.take i)) := by rw [upd_ne hqi, upd_same]
    obtain ⟨z, its2, kk, r2, hl, e⟩ := I2.lstM atq
    have len : (zs.take i).length = i := by rw [List.length_take]; omega
    have len2 : its2.length = i := by rw [← r2.length, len]
    show wpAny _ A1.in1 (updateSeq q (·.push w') >>= _) _ _ _
    refine wpAny_bind (wpAny_updateSeq e rfl (wpAny_pure ⟨plainId_quiet PySem.F.plain_extend_loop _, ?_⟩) (by rw [List.size_toArray]; omega) (by show (its2.toArray.push w').size ≤ sizeLine + 1; rw [Array.size_push, List.size_toArray]; omega))
    refine ih (i + 1) _ (by omega) lt ?_
    have J := I2.lset (its' := its2 ++ [w']) (ys := zs.take i ++ [zs[i]]) (f := (·.push w')) (t' := s.toks) atq e (by simp) (r2.append (.cons rw' .nil)) (by rw [List.length_append, List.length_singleton, len]; omega)
    rw [upd_comm (Ne.symm hqi), upd_upd] at J
    rw [List.take_succ_eq_append_getElem lt]
    exact J
theorem call_listO {CI : CXT} {EI : XK} (hc : ItL X.K C fi) (calm : X.calm = true) (FI : FnOk X.prog X.w X.K X.mg X.base CI n fi fdI psI (spItL X.K C f)) (bI : Binds X.K fdI psI []) (xI : Passes CI X EI) (hr : Room (n + 2) X.A) : CallR X (.type "list") (rListO X.K C f) := by
  rintro pins s σ H _ us Q I rel ⟨a, dx, fs, l, zs, rfl, ha, hf, hsq, ⟨ul, hul⟩, fin⟩
  obtain ⟨_, rfl, ru⟩ := rel.one
  cases ru
  have sb : Sub X n X.A.in1.in1 := Sub.in1 (Sub.in1 (⟨hr, rfl⟩ : Sub X (n + 2) X.A))
  obtain ⟨-, -, -, hz⟩ := I.list hsq
  refine list_by fun h c new kept => ?_
  have fr := I.hok.fresh (Nat.le_refl s.heap.objs.size)
  have I1 : Inv X pins σ (upd H s.heap.objs.size (.lst [])) { s with heap := h } := I.laid (t' := s.toks) kept (Nat.le_refl _) ⟨Nat.zero_le _, [], c, .nil, new⟩
  generalize s.heap.objs.size = q at *
  have hne : q ≠ a := fun z => by rw [z, ha] at fr; cases fr
  have hql : l ≠ q := fun z => by rw [← z, hul] at fr; cases fr
  have ha1 : upd H q (.lst []) a = some (.ins C dx fs) := by rw [upd_ne (Ne.symm hne)]; exact ha
  obtain ⟨mA, J, _⟩ := ins_get I1.hok ha1
  obtain ⟨od, J, _⟩ := J.look
  obtain ⟨m0, hF⟩ := I1.fr
  unfold Builtin.List.listExtendWith
  refine wpAny_bind (J.type.here ?_)
  obtain ⟨o1, o2, o3⟩ : Builtin.List.listSameRef (.ref q) (.ref a) = false ∧ (Value.ref C == Value.type "list") = false ∧ (Value.ref C == Value.type "tuple") = false := ⟨by simp [Builtin.List.listSameRef, hne], rfl, rfl⟩
  simp only [o1, o2, o3, Bool.false_eq_true, Bool.or_false, if_false]
  refine wpAny_bind (PySem.W.owit_iter hF I1.ok.mod.kin J hc.walk.at_ hc.walk.fn ?_)
  have e0 : Env0 X.prog X.w X.K X.mg X.base X.A.in1.in1 X.stack { s with heap := h } (upd H q (.lst [])) := by
    obtain ⟨fr0, e1, e2, e3, e4, e5, e6, e7⟩ := I1.env0
    exact ⟨sb.fr ▸ fr0, e1, e2, e3, e4, e5, e6, e7⟩
  have hspI : spItL X.K C f [.ref a] (upd H q (.lst [])) (fun v H' => ∃ it, v = .ref it ∧ upd H q (.lst []) it = none ∧ H' = upd (upd H q (.lst [])) it (ItO l it 0)) EI := ⟨a, dx, fs, l, zs, rfl, ha1, hf, sqL_upd hsq hql, fun it hit => ⟨it, rfl, hit, rfl⟩⟩
  have hl := FI.len _ _ _ _ hspI
  have rel1 : Vals [V.ref a] [Value.ref a] := .cons rfl .nil
  refine wpAny_call (codeAny_mono (FI.run X.A.in1.in1 X.stack _ _ ⟨[.ref a], []⟩ [.ref a] [.ref a] _ EI sb.room e0 (by
    have := bI { s with heap := h } [.ref a] I1.kIn hl
    exact this) rel1 hspI) fun r s' hq' => ?_)
  cases r with
  | error e => exact (xI pins σ _ _ e s' I1 hq')
  | ok fl =>
    cases fl with
    | next => exact False.elim hq'
    | brk => exact False.elim hq'
    | cont => exact False.elim hq'
    | ret u =>
      obtain ⟨v, H', I', rv, it, ev, nit, eH⟩ := I1.after hq'
      subst ev
      rw [eH] at I'
      cases rv
      have hqi : q ≠ it := fun z => by rw [← z, upd_same] at nit; cases nit
      have nit0 : H it = none := by rw [← nit, upd_ne (Ne.symm hqi)]
      have hit : l ≠ it := fun z => by rw [← z, hul] at nit0; cases nit0
      have hai : a ≠ it := fun z => by rw [← z, ha] at nit0; cases nit0
      have ho := itO_get I' (it := it) (l := l) (i := 0) upd_same
      have hT := (DSub.iter_of ho).typeIs
      show PySem.W.OwitIt _ _ _ _ _ _
      unfold PySem.W.OwitIt
      refine wpAny_specialOf (name := Str.ofString "__next__") hT slot_listiter_next.lookup ?_
      show wpAny _ _ _ _ _ _
      have ha2 : upd (upd H q (.lst [])) it (ItO l it 0) a = some (.ins C dx fs) := by rw [upd_ne hai]; exact ha1
      obtain ⟨mA', J', _⟩ := ins_get I'.hok ha2
      obtain ⟨od', J', _⟩ := J'.look
      have loop : ∀ s2, Inv X pins σ (upd (upd H q (.lst [])) it (ItO l it 0)) s2 → codeAny (model X.prog X.w) X.A.in1 (.builtin "list.extend.loop" ⟨[.ref q, .ref it, .none], []⟩) (fin1 (EP X pins σ Q) X.xe q) s2 := fun s2 I2 =>
        loop_listO (X := X) (A1 := X.A.in1) (I2.ok.hd calm) hql hit hqi nit0 hsq hz (fun s3 I3 => ⟨rfl, .ref q, _, I3, rfl, fin q fr⟩) zs.length 0 s2 (by omega) (Nat.zero_le _) I2
      refine wpAny_bind (wpAny_holding ?_)
      unfold Builtin.List.listLengthHint
      refine wpAny_bind (wpAny_bind (J'.type.here ((PySem.W.looks_findIn I'.kIn hc.bare.1).here ?_)))
      refine PySem.W.KFB.if_not rfl ?_
      refine PySem.W.KFB.if_not rfl ?_
      refine wpAny_bind (wpAny_bind (J'.type.here ((PySem.W.looks_findIn I'.kIn hc.bare.2).here ?_)))
      refine wpAny_pure ?_
      refine wpAny_ite_split (fun _ => wpAny_bind (wpAny_rule (wpAny_bind (touch_ok I' (by rw [upd_ne hqi, upd_same]) fun t I2 => ?_)))) (fun _ => ?_)
      · exact wpAny_pure ⟨plainId_quiet PySem.F.plain_extend_loop _, loop _ I2⟩
      · exact wpAny_pure ⟨plainId_quiet PySem.F.plain_extend_loop _, loop _ I'⟩
end
section
variable {K : PySem.W.Frag} {ss : Sl} {mem m1 : List Mc} {td : TE} {C : Addr} {gs : List (Str × D)} {f : Str} {ds : List D}
theorem dt_listO (hd : DT K td ss mem (.dat (.obj C gs)) m1) (hf : gs.lookup f = some (.rls ds)) : DT K (tCB (rListO K C f) (tCons td tNil)) ss mem (.dat (.rls ds)) m1 := fun B H al σ Q S q =>
  hd B H al σ _ S fun B1 H1 al1 v P1 S1 r1 => by
    cases r1 with
    | @obj a _ dx fs _ s r =>
      obtain ⟨x, h1, h2⟩ := r.look hf
      cases h2 with
      | @rls l xs _ sl rl =>
        refine ⟨a, dx, fs, l, xs, rfl, S1.sub _ _ s, h1, SqL.of (S1.sub _ _ sl), ⟨_, S1.sub _ _ sl⟩, fun p np => ?_⟩
        obtain ⟨P2, S2⟩ := S1.lay (o := .lst xs) np
        exact q _ _ _ _ (P1.trans P2) S2 (.rls upd_same (RepAll.mono P2.same _ rl))
end
end DL
end
section
set_option Elab.async false
set_option linter.all false
set_option maxRecDepth 100000
/-! == of dicts with tuple keys and ints as values -/
namespace DL
open PySem PySem.Spec PyProof.Rows L2
section
variable {P : Program} {w : World} {A : Around} {E : Value → Shared → Prop} {s : Shared} {κ : Type} [DecidableEq κ] {knd : HeapKind P w κ}
/-- what the ints at the keys say of the i-th pair of the first -/
def hitAt (xs ys : List (κ × Addr × Value)) (val : Value → Int) (i : Nat) : Bool := match xs[i]? with
  | some x => (match atKey ys x.1 with
    | some y => val x.2.2 == val y.2
    | none => false)
  | none => false
def IntV (v : Value) : Prop := ∃ i t, v = .int i t
def intOf : Value → Int
  | .int i _ => i
  | _ => 0
theorem pairs_same {nm : String} {a b : Addr} {xs ys : List (κ × Addr × Value)} {Q : Bool → Shared → Prop} (la : (a == sysModules) = false) (lb : (b == sysModules) = false) (hu : knd.room A) (da : s.heap.DictOfH knd a xs) (db : s.heap.DictOfH knd b ys)
    (ix : ∀ x ∈ xs, IntV x.2.2) (iy : ∀ y ∈ ys, IntV y.2.2) (fin : ∀ r, (r = true ↔ xs.length = ys.length ∧ ∀ i < xs.length, hitAt xs ys intOf i = true) → Q r s) : wpAny (model P w) A (Builtin.Dict.samePairs nm a b) Q E s := by
  obtain ⟨oa, ea, pa, ga, -, ta, na, ka, -⟩ := da
  obtain ⟨ob, eb, pb, gb, -, tb, nb, kb, ndb⟩ := db
  have sa : ea.size = xs.length := size_of_entries na
  have sb : eb.size = ys.length := size_of_entries nb
  unfold Builtin.Dict.samePairs
  unfold Builtin.Dict.showsAll
  rw [la, lb]
  refine wpAny_bind (wpAny_pure (wpAny_bind (wpAny_pure (wpAny_bind (wpAny_dictEntries ga ta ?_)))))
  dsimp only
  refine wpAny_bind (wpAny_dictEntries gb tb ?_)
  by_cases sz : ea.size = eb.size
  case neg =>
    rw [if_pos (by simpa using sz)]
    refine wpAny_bind (wpAny_rule (wpAny_pure (fin false ⟨(fun z => nomatch z), fun z => absurd z.1 (by rw [← sa, ← sb]; exact sz)⟩)))
  case pos =>
    rw [if_neg (by simp [sz])]
    refine wpAny_bind (wpAny_dictEpoch ga ta (wpAny_bind ?_))
    rw [Std.Legacy.Range.forIn_eq_forIn_range']
    simp only [Nat.div_one, Nat.add_sub_cancel, Nat.sub_zero, Std.Legacy.Range.size]
    refine wpAny_forIn_list _ (fun rest acc s' => s' = s ∧ acc = (none, ()) ∧ ∃ i, rest = List.range' i (ea.size - i) ∧ i ≤ ea.size ∧ ∀ j < i, hitAt xs ys intOf j = true) _ ?_ ?_ _ _ ⟨rfl, rfl, 0, rfl, Nat.zero_le _, fun j z => absurd z (Nat.not_lt_zero j)⟩
    · rintro i rest acc s' ⟨rfl, rfl, i', er, le, so⟩
      have lt : i' < ea.size := Decidable.byContradiction fun z => by
        rw [show ea.size - i' = 0 by omega] at er
        exact absurd er (by simp)
      rw [show ea.size - i' = ea.size - (i' + 1) + 1 by omega, List.range'_succ] at er
      obtain ⟨rfl, rfl⟩ := List.cons.inj er
      have lx : i < xs.length := by omega
      obtain ⟨⟨k, c, u⟩, ex⟩ : ∃ x, xs[i]? = some x := ⟨_, List.getElem?_eq_getElem lx⟩
      have mx := List.mem_of_getElem? ex
      obtain ⟨n, t, rfl⟩ := ix _ mx
      refine wpAny_bind (wpAny_dictEntries ga ta ?_)
      rw [entry_at na i, ex]
      have bad : hitAt xs ys intOf i = false → Q false s' := fun z => fin false ⟨(fun y => nomatch y), fun y => absurd (y.2 i lx) (by rw [z]; exact Bool.false_ne_true)⟩
      show wpAny _ _ (holding [Value.ref c, Value.int n t] _ >>= _) _ _ _
      refine wpAny_bind (wpAny_holding (wpAny_bind (wpAny_dictFind_heap hu (ka _ mx) gb tb nb kb ndb (fun miss => ?_) fun j p ej => ?_)))
      · refine wpAny_pure ?_
        show wpAny _ _ (ite ((!false) = true) _ _) _ _ _
        rw [if_pos (by decide)]
        refine wpAny_pure (wpAny_pure (bad ?_))
        unfold hitAt
        rw [ex]
        show (match atKey ys k with | some y => _ | none => false) = false
        rw [atKey_none_of_get miss]
      · refine wpAny_bind (wpAny_dictEntries gb tb ?_)
        rw [entry_at nb j, ej]
        obtain ⟨n', t', ep⟩ := iy _ (List.mem_of_getElem? ej)
        have hit : hitAt xs ys intOf i = (n == n') := by
          unfold hitAt
          rw [ex]
          show (match atKey ys k with | some y => _ | none => false) = _
          rw [atKey_of_get ndb ej]
          show (n == intOf p.2) = _
          rw [show p.2 = Value.int n' t' from ep]
          rfl
        refine wpAny_holding (SeqAt.EqAt.int_int n t n' t' P w _ _ ?_ |> fun z => by rw [← ep] at z; exact z)
        cases q : n == n' with
        | false =>
          show wpAny _ _ (ite ((!false) = true) _ _) _ _ _
          rw [if_pos (by decide)]
          exact wpAny_pure (wpAny_pure (bad (hit.trans q)))
        | true =>
          show wpAny _ _ (ite ((!true) = true) _ _) _ _ _
          rw [if_neg (by decide)]
          refine wpAny_bind (wpAny_dictEpoch ga ta ?_)
          rw [if_neg (by simp)]
          refine wpAny_pure ⟨rfl, rfl, i + 1, rfl, lt, fun j hj => ?_⟩
          rcases Nat.lt_succ_iff_lt_or_eq.mp hj with z | z
          · exact so j z
          · rw [z, hit, q]
    · rintro acc s' ⟨rfl, rfl, i, er, le, so⟩
      have ei : i = ea.size := Decidable.byContradiction fun z => by
        rw [show ea.size - i = ea.size - (i + 1) + 1 by omega, List.range'_succ] at er
        exact absurd er (by simp)
      subst ei
      exact wpAny_pure (fin true ⟨fun _ => ⟨by omega, fun i hi => so i (by omega)⟩, fun _ => rfl⟩)
end
section
variable {X : Cx}
/-- d == e: keys tuples, values ints -/
def rEqDT : R2 := fun x y H Q => ∃ (a b : Addr) (ks ls : List (List L2.Key × V)), x = .ref a ∧ y = .ref b ∧ Rd H a (.dT ks) ∧ Rd H b (.dT ls) ∧ (∀ p ∈ ks, ∃ i, p.2 = .int i) ∧ (∀ p ∈ ls, ∃ i, p.2 = .int i) ∧
  ∀ r, (r = true ↔ ks.length = ls.length ∧ ∀ p ∈ ks, valV ls p.1 = some p.2) → Q (.bl r) H
theorem KT.ints {H : Hp} {kvs : List (List L2.Key × V)} {xs : List (List L2.Key × Addr × Value)} (r : KT H kvs xs) (h : ∀ p ∈ kvs, ∃ i, p.2 = .int i) : ∀ x ∈ xs, IntV x.2.2 := by
  induction r with
  | nil => exact fun _ z => nomatch z
  | @cons p q ps qs a t ih =>
    intro x hx
    rcases List.mem_cons.mp hx with z | z
    · obtain ⟨i, e⟩ := h p List.mem_cons_self
      have rel := a.2.2
      rw [e] at rel
      exact ⟨i, rel.choose, z ▸ rel.choose_spec⟩
    · exact ih (fun p hp => h p (List.mem_cons_of_mem _ hp)) x z
theorem KT.nth {H : Hp} {kvs : List (List L2.Key × V)} {xs : List (List L2.Key × Addr × Value)} (r : KT H kvs xs) : ∀ (i : Nat) p, kvs[i]? = some p → ∃ x, xs[i]? = some x ∧ x.1 = p.1 ∧ RelV p.2 x.2.2 := by
  induction r with
  | nil => exact fun i p e => by simp at e
  | @cons p q ps qs a t ih =>
    intro i z e
    cases i with
    | zero => exact ⟨q, rfl, Option.some.inj e ▸ a.1.symm, Option.some.inj e ▸ a.2.2⟩
    | succ i => exact ih i z (by simpa using e)
theorem op_eqDT (hu : X.A.units + 1 < cLine) : OpR X (compareOp .Eq) rEqDT := by
  rintro pins s σ H x y v u Q I rx ry ⟨a, b, ks, ls, rfl, rfl, ra, rb, ik1, il1, fin⟩
  cases rx
  cases ry
  obtain ⟨_, la, xs, ka, da⟩ := dt_rd I.hok ra
  obtain ⟨_, lb, ys, kb, db⟩ := dt_rd I.hok rb
  refine wpAny_richCompare_same_room (op := .Eq) da.typeIs db.typeIs PySem.F.slot_dict_eq (wpAny_call_entry PySem.F.slot_dict_eq da.typeIs PySem.F.entry_dict_eq ?_ (PySem.F.args_dict_eq_2 _ _)) (Nat.lt_of_succ_lt hu)
  change wpAny _ _ (Bind.bind (Builtin.Dict.dictSlotArgs "__eq__" ⟨[.ref a, .ref b], []⟩) _) _ _ s
  unfold Builtin.Dict.dictSlotArgs
  refine wpAny_bind (wpAny_bind (wpAny_notOrdered_dict da.typeIs (wpAny_pure ?_)))
  refine wpAny_bind (wpAny_isInstance (b := true) (T := "dict") db.typeIs PySem.F.sub_dict_dict ?_)
  simp only [if_false, Bool.false_eq_true, Bool.not_true]
  refine wpAny_bind (wpAny_pure (wpAny_bind (wpAny_pure (wpAny_bind (pairs_same la lb hu da db (KT.ints ka ik1) (KT.ints kb il1) fun r hr => wpAny_pure ⟨_, rfl, (fun z => nomatch z), ?_⟩)))))
  have l1 : ks.length = xs.length := Paired.length ka
  have l2 : ls.length = ys.length := Paired.length kb
  refine ⟨.bl r, H, I, (by cases r <;> rfl), fin r (hr.trans ⟨fun z => ⟨by omega, fun p hp => ?_⟩, fun z => ⟨by omega, fun i hi => ?_⟩⟩)⟩
  · obtain ⟨i, hi⟩ := List.mem_iff_getElem?.mp hp
    obtain ⟨x, hx, ex, rx⟩ := KT.nth ka i p hi
    have h := z.2 i (List.getElem?_eq_some_iff.mp hx).1
    unfold hitAt at h
    rw [hx] at h
    dsimp only at h
    rw [ex] at h
    obtain ⟨n, en⟩ := ik1 p hp
    rw [en] at rx ⊢
    obtain ⟨t, et⟩ := rx
    have rel := kb.val p.1
    cases q : atKey ys p.1 with
    | none =>
      rw [q] at h
      cases h
    | some y =>
      rw [q] at h rel
      cases q2 : valV ls p.1 with
      | none =>
        rw [q2] at rel
        exact rel.elim
      | some v =>
        rw [q2] at rel
        have mem : ∃ p' ∈ ls, p'.2 = v := by
          unfold valV at q2
          obtain ⟨p', e1, e2⟩ := Option.map_eq_some_iff.mp q2
          exact ⟨p', List.mem_of_find?_eq_some e1, e2⟩
        obtain ⟨p', hp', rfl⟩ := mem
        obtain ⟨n', en'⟩ := il1 p' hp'
        rw [en'] at rel ⊢
        obtain ⟨t', et'⟩ := (show L2.RelV (.int n') y.2 from rel)
        dsimp only at h
        rw [et, et'] at h
        have : n = n' := by simpa [intOf] using h
        rw [this]
  · obtain ⟨p, hp⟩ : ∃ p, ks[i]? = some p := ⟨_, List.getElem?_eq_getElem (by omega)⟩
    obtain ⟨x, hx, ex, rx⟩ := KT.nth ka i p hp
    have h := z.2 p (List.mem_of_getElem? hp)
    have rel := kb.val p.1
    rw [h] at rel
    unfold hitAt
    rw [hx]
    show (match atKey ys x.1 with | some y => intOf x.2.2 == intOf y.2 | none => false) = true
    rw [ex]
    cases q : atKey ys p.1 with
    | none =>
      rw [q] at rel
      exact rel.elim
    | some y =>
      rw [q] at rel
      obtain ⟨n, en⟩ := ik1 p (List.mem_of_getElem? hp)
      rw [en] at rx rel
      obtain ⟨t, et⟩ := rx
      obtain ⟨t', et'⟩ := (show L2.RelV (.int n) y.2 from rel)
      show (intOf x.2.2 == intOf y.2) = true
      rw [et, et']
      simp [intOf]
end
def eqI (mi ni : List (List Int × Int)) : Bool := decide (mi.length = ni.length ∧ ∀ p ∈ mi, lookI ni p.1 = some p.2)
section
variable {K : PySem.W.Frag} {ss : Sl} {mem m1 m2 : List Mc} {ta tb : TE} {x y : Vl} {mi ni : List (List Int × Int)}
theorem kv_ints {B : Hp} : ∀ {mi : List (List Int × Int)} {kvs : List (List L2.Key × V)}, RepKv K B kvs (toD mi) → kvs = mi.map fun p => (ik p.1, V.int p.2)
  | [], _, h => by cases h; rfl
  | p :: m, _, h => by
    cases h with
    | cons h1 h2 =>
      cases h1
      rw [kv_ints (mi := m) h2]
      rfl
theorem valV_ints (k : List Int) : ∀ mi : List (List Int × Int), valV (mi.map fun p => (ik p.1, V.int p.2)) (ik k) = (lookI mi k).map V.int
  | [] => rfl
  | p :: m => by
    show valV ((ik p.1, V.int p.2) :: _) (ik k) = (if p.1 = k then some p.2 else lookI m k).map V.int
    by_cases e : p.1 = k
    · rw [if_pos e, valV_pos (congrArg ik e)]; rfl
    · rw [if_neg e, valV_neg fun z => e (ik_inj z)]
      exact valV_ints k m
theorem dt_eqDic (ha : DT K ta ss mem x m1) (hb : DT K tb ss m1 y m2) (da : IsDic m2 x (toD mi)) (db : IsDic m2 y (toD ni)) : DT K (tOp rEqDT ta tb) ss mem (.dat (.bl (eqI mi ni))) m2 :=
  dt_op ha hb fun B H al σ v w Q S hv hw k => by
    obtain ⟨a, ks, rfl, ra, ka⟩ := dic_at S hv da
    obtain ⟨b, ls, rfl, rb, kb⟩ := dic_at S hw db
    obtain rfl := kv_ints ka
    obtain rfl := kv_ints kb
    refine ⟨a, b, _, _, rfl, rfl, ra, rb, fun p hp => ?_, fun p hp => ?_, fun r hr => ?_⟩
    · obtain ⟨q, -, rfl⟩ := List.mem_map.mp hp
      exact ⟨_, rfl⟩
    · obtain ⟨q, -, rfl⟩ := List.mem_map.mp hp
      exact ⟨_, rfl⟩
    · have e : r = eqI mi ni := by
        have z : r = true ↔ eqI mi ni = true := by
          rw [hr]
          unfold eqI
          rw [decide_eq_true_iff, List.length_map, List.length_map]
          refine and_congr_right fun _ => ⟨fun h p hp => ?_, fun h p hp => ?_⟩
          · have := h (ik p.1, .int p.2) (List.mem_map.mpr ⟨p, hp, rfl⟩)
            rw [valV_ints] at this
            cases q : lookI ni p.1 with
            | none => rw [q] at this; cases this
            | some i =>
              rw [q] at this
              cases this
              rfl
          · obtain ⟨q, hq, rfl⟩ := List.mem_map.mp hp
            rw [valV_ints, h q hq]
            rfl
        cases r <;> cases q : eqI mi ni <;> simp_all
      rw [e]
      exact k _ _ _ _ (Stp.refl _ _ _) S (.bl _)
end
end DL
end
section
set_option Elab.async false
set_option linter.all false
set_option maxRecDepth 100000
/-! small rules: dicts and lists that are made and left alone, three targets, != of bools, a method of one of two classes -/
namespace DL
open PySem PySem.Spec PyProof.Rows L2
section
variable {K : PySem.W.Frag} {ss : Sl} {mem m1 m2 m3 : List Mc} {ta tb te td ty : TE} {t : TS} {x : Vl} {r : Vl} {out : Out} {m : List (List Int × D)} {a b : Bool} {d e g : D}
theorem dt_dnewD : DT K tDNewT ss mem (.dat (.dic [])) mem := fun B H al σ Q S k p np => by
  obtain ⟨P2, S2⟩ := S.lay (o := .dT []) np
  exact k _ _ _ _ P2 S2 (.dic (.inl upd_same) .nil)
theorem dt_dictPrD (h : DT K te ss mem (.dat (.lst (m.map pairD))) m1) : DT K (tCB (rDictPrT K) (tCons te tNil)) ss mem (.dat (.dic (putAllI [] m))) m1 := fun B H al σ Q S q =>
  h B H al σ _ S fun B1 H1 al1 v P1 S1 r1 => by
    cases r1 with
    | @lst l xs _ s r =>
      obtain ⟨ps, bs, kvs, rfl, l1, l2, rk, at_⟩ := r.pairs
      refine ⟨l, ps, bs, kvs, rfl, S1.seqL s, l1, l2, fun j p b k v e1 e2 e3 => let z := at_ j p b k v e1 e2 e3; ⟨S1.sub _ _ z.1, S1.sub _ _ z.2⟩, fun c nc => ?_⟩
      obtain ⟨P2, S2⟩ := S1.lay (o := .dT (DL.putAll [] kvs)) nc
      exact q _ _ _ _ (P1.trans P2) S2 (.dic (.inl upd_same) (RepKv.mono P2.same _ (RepKv.putAll rk .nil)))
theorem dt_tlR {ds : List D} (h : DT K te ss mem (.tl ds) m1) : DT K te ss mem (.dat (.rls ds)) m1 := fun B H al σ Q S q =>
  h B H al σ _ S fun B1 H1 al1 v P1 S1 r1 => by
    obtain ⟨a, xs, rfl, h1, h2⟩ := r1
    exact q _ _ _ _ P1 S1 (.rls h1 h2)
/-- xs + [..]: a new own list -/
theorem dt_catRO {ds es : List D} (ha : DT K ta ss mem (.dat (.rls ds)) m1) (hb : DT K tb ss m1 (.tl es) m2) (hl : ds.length + es.length ≤ 16777216) : DT K (tOp rCat ta tb) ss mem (.own m2.length) (m2 ++ [.lst (ds ++ es)]) :=
  dt_op ha hb fun B H al σ v w Q S hv hw k => by
    cases hv with
    | @rls a xs _ a2 a3 =>
      obtain ⟨b, ys, rfl, b2, b3⟩ := hw
      refine ⟨a, b, xs, ys, rfl, rfl, S.sub _ _ a2, S.sub _ _ b2, by rw [a3.len, b3.len, sizeLine_eq]; exact hl, fun p np => ?_⟩
      obtain ⟨P, S'⟩ := S.layOwn (o := .lst (xs ++ ys)) (m := .lst (ds ++ es)) np ⟨S.sub.free np, _, upd_same, a3.append b3⟩
      exact k _ _ _ _ P S' (own_last S p)
theorem ds_frzR {n : Nat} {ds : List D} (i : Nat) (hi : ss[i]? = some (some (.own n))) (hm : mem[n]? = some (.lst ds)) (h : DS K t (ss.set i (some (.dat (.rls ds)))) (mem.set n .gone) out) : DS K t ss mem out := fun B H al σ Dn S q => by
  obtain ⟨v, h1, a, a1, rfl⟩ := S.slot i _ hi
  obtain ⟨b0, xs, a2, a3⟩ := S.mem n a _ a1 hm
  obtain ⟨P1, S1⟩ := S.freeze a1 b0 a2
  have S2 : Sit K (upd B a (.lst xs)) H al σ (ss.set i (some (.dat (.rls ds)))) (mem.set n .gone) := by
    refine ⟨S1.sub, by rw [List.length_set]; exact S1.len, fun j z e => ?_, S1.mlen, S1.mem, S1.nd, S1.there⟩
    by_cases hj : j = i
    · subst hj
      have hl : j < ss.length := (List.getElem?_eq_some_iff.mp hi).1
      rw [List.getElem?_set_self hl] at e
      have e' := Option.some.inj (Option.some.inj e)
      subst e'
      exact ⟨_, h1, .rls upd_same (RepAll.mono P1.same _ a3)⟩
    · rw [List.getElem?_set_ne (Ne.symm hj)] at e
      exact S1.slot j z e
  exact h _ H al σ Dn S2 fun B2 H2 al2 P2 => q _ _ _ (P1.trans P2)
theorem ds_par3 {i j l : Nat} {tt : TA} (h : DA K tt ss mem [d, e, g] m1) : DS K (tPar3 i j l tt) ss mem (.nx (((ss.set i (some (.dat d))).set j (some (.dat e))).set l (some (.dat g))) m1) := fun B H al σ Dn S k =>
  h B H al σ _ S fun B1 H1 al1 vs P1 S1 r1 => by
    cases r1 with
    | cons r1 r2 =>
      cases r2 with
      | cons r2 r3 =>
        cases r3 with
        | cons r3 r4 =>
          cases r4
          exact ⟨_, _, _, rfl, k _ _ _ P1 _ (((S1.put fun q e => by cases e; exact r1).put fun q e => by cases e; exact r2).put fun q e => by cases e; exact r3)⟩
theorem dt_neB (ha : DT K ta ss mem (.dat (.bl a)) m1) (hb : DT K tb ss m1 (.dat (.bl b)) m2) : DT K (tOp rNe ta tb) ss mem (.dat (.bl (!decide (a = b)))) m2 :=
  dt_op ha hb fun B H al σ v w Q S hv hw k => by
    cases hv
    cases hw
    refine ⟨rfl, k _ _ _ _ (Stp.refl _ _ _) S ?_⟩
    have e : decide (V.bl a = V.bl b) = decide (a = b) := by simp
    rw [e]
    exact .bl _
theorem dt_neB_same (ha : DT K ta ss mem (.dat (.bl a)) m1) (hb : DT K tb ss m1 (.dat (.bl a)) m2) : DT K (tOp rNe ta tb) ss mem (.dat (.bl false)) m2 := by
  have e := dt_neB ha hb
  rw [decide_eq_true rfl] at e
  exact e
end
/-- what one of two says -/
def tEither (t u : TE) : TE := fun σ H Q => t σ H Q ∨ u σ H Q
theorem pe_either {X : Cx} {e : Expr} {t u : TE} (h : PE X e t) (g : PE X e u) : PE X e (tEither t u) := ⟨fun pins s σ H Q I q => q.elim (fun z => h.run pins s σ H Q I z) fun z => g.run pins s σ H Q I z⟩
theorem dt_left {K : PySem.W.Frag} {ss : Sl} {mem m1 : List Mc} {t u : TE} {r : Vl} (h : DT K t ss mem r m1) : DT K (tEither t u) ss mem r m1 := fun B H al σ Q S k => .inl (h B H al σ Q S k)
theorem dt_right {K : PySem.W.Frag} {ss : Sl} {mem m1 : List Mc} {t u : TE} {r : Vl} (h : DT K u ss mem r m1) : DT K (tEither t u) ss mem r m1 := fun B H al σ Q S k => .inr (h B H al σ Q S k)
/-! equal dicts -/
theorem lookI_in : ∀ {mi : List (List Int × Int)}, (mi.map (·.1)).Nodup → ∀ p ∈ mi, lookI mi p.1 = some p.2
  | q :: m, nd, p, h => by
    have nd' := List.nodup_cons.mp nd
    show (if q.1 = p.1 then some q.2 else lookI m p.1) = some p.2
    rcases List.mem_cons.mp h with e | e
    · subst e
      exact if_pos rfl
    · have ne : ¬ q.1 = p.1 := fun z => nd'.1 (by show q.1 ∈ _; rw [z]; exact List.mem_map_of_mem e)
      rw [if_neg ne]
      exact lookI_in nd'.2 p e
theorem eqI_same {mi ni : List (List Int × Int)} (hl : mi.length = ni.length) (nd : (ni.map (·.1)).Nodup) (sub : ∀ p ∈ mi, p ∈ ni) : eqI mi ni = true :=
  decide_eq_true ⟨hl, fun p hp => lookI_in nd p (sub p hp)⟩
end DL
end
section
set_option Elab.async false
set_option linter.all false
set_option maxRecDepth 100000
/-! min(xs), xs a list of tuples of ints -/
namespace DL
open PySem PySem.Spec PyProof.Rows L2
abbrev lstO (arr : Array Value) (c : Nat) : Obj := { cls := .type "list", dict := none, data := .seq arr c, slots := #[] }
/-- the list that holds the best so far, whole -/
def SO (S : Addr) (arr : Array Value) (c : Nat) : HO := .ext fun h => h.get? S = some (lstO arr c)
theorem sO_ok {P : Program} {w : World} {H : Hp} {h : Heap} {S : Addr} {arr : Array Value} {c : Nat} (e : h.get? S = some (lstO arr c)) : ObjOk P w H h S (SO S arr c) := ⟨e, ⟨_, e⟩, fun h1 h2 q k => k _ q⟩
/-- what stands while min walks: the iterator, and the list of the best -/
def HM (H : Hp) (l it S : Addr) (i : Nat) (arr : Array Value) (c : Nat) : Hp := upd (upd H it (ItO l it i)) S (SO S arr c)
section
variable {H : Hp} {l it S : Addr} {i j c c' : Nat} {arr arr' : Array Value}
theorem hm_S : HM H l it S i arr c S = some (SO S arr c) := upd_same
theorem hm_it (h : it ≠ S) : HM H l it S i arr c it = some (ItO l it i) := (upd_ne h).trans upd_same
theorem hm_setS : upd (HM H l it S i arr c) S (SO S arr' c') = HM H l it S i arr' c' := upd_upd
theorem hm_setIt (h : it ≠ S) : upd (HM H l it S i arr c) it (ItO l it j) = HM H l it S j arr c := by
  unfold HM
  rw [upd_comm (Ne.symm h), upd_upd]
theorem hm_end (h : it ≠ S) {z w : HO} : upd (upd (HM H l it S i arr c) it z) S w = upd (upd H it z) S w := by
  unfold HM
  rw [upd_comm (Ne.symm h), upd_upd, upd_upd]
end
/-- the tuples that are compared -/
structure MinT (K : PySem.W.Frag) (H : Hp) (l it S : Addr) (xs : List V) (ps : Nat → Addr) (ns : Nat → List Int) : Prop where
  li : l ≠ it
  lS : l ≠ S
  iS : it ≠ S
  ni : H it = none
  nS : H S = none
  sq : SqL K H l xs
  at_ : ∀ i, i < xs.length → xs[i]? = some (.ref (ps i)) ∧ SqT K H (ps i) ((ns i).map V.int) ∧ ps i ≠ it ∧ ps i ≠ S
theorem sqT_upd {K : PySem.W.Frag} {H : Hp} {a b : Addr} {o : HO} {xs : List V} (h : SqT K H a xs) (n : a ≠ b) : SqT K (upd H b o) a xs := by
  unfold SqT Rd at h ⊢
  simp only [upd_ne n]
  exact h
theorem MinT.list {K : PySem.W.Frag} {H : Hp} {l it S : Addr} {xs : List V} {ps : Nat → Addr} {ns : Nat → List Int} (m : MinT K H l it S xs ps ns) (i : Nat) (arr : Array Value) (c : Nat) : SqL K (HM H l it S i arr c) l xs := sqL_upd (sqL_upd m.sq m.li) m.lS
theorem MinT.tup {K : PySem.W.Frag} {H : Hp} {l it S : Addr} {xs : List V} {ps : Nat → Addr} {ns : Nat → List Int} (m : MinT K H l it S xs ps ns) {k : Nat} (hk : k < xs.length) (i : Nat) (arr : Array Value) (c : Nat) : SqT K (HM H l it S i arr c) (ps k) ((ns k).map V.int) :=
  sqT_upd (sqT_upd (m.at_ k hk).2.1 (m.at_ k hk).2.2.1) (m.at_ k hk).2.2.2
/-- the best of the first so many -/
def bestT (ns : Nat → List Int) : Nat → Nat
  | 0 => 0
  | i + 1 => if HT.lexLt (ns (i + 1)) (ns (bestT ns i)) = true then i + 1 else bestT ns i
theorem bestT_le (ns : Nat → List Int) : ∀ i, bestT ns i ≤ i
  | 0 => Nat.le_refl _
  | i + 1 => by
    show (if _ then i + 1 else bestT ns i) ≤ i + 1
    split
    · exact Nat.le_refl _
    · exact Nat.le_succ_of_le (bestT_le ns i)
section
variable {X : Cx} {pins : List (Addr × Obj)} {σ : L2.St} {H : Hp} {A1 : Around} {Rs : Result → Shared → Prop} {l it S : Addr} {xs : List V} {ps : Nat → Addr} {ns : Nat → List Int}
abbrev minC (it S : Addr) : Code := .builtin "min.loop" ⟨[.ref it, .none, .ref S], []⟩
theorem min_end (hc : A1.in1.handled = none) (m : MinT X.K H l it S xs ps ns) {p : Addr} {c : Nat} {s : Shared} (I : Inv X pins σ (HM H l it S xs.length #[.ref p, .ref p] c) s) (hdone : ∀ t, Inv X pins σ H t → Rs (.ok (.ret (.ref p))) t) :
    codeAny (model X.prog X.w) A1 (minC it S) Rs s := by
  have hS : s.heap.get? S = some (lstO #[.ref p, .ref p] c) := (I.hok S _ hm_S).1
  obtain ⟨its, rv, pl, -⟩ := I.list (m.list xs.length #[.ref p, .ref p] c)
  have atI := hm_it (H := H) (l := l) (i := xs.length) (arr := #[Value.ref p, .ref p]) (c := c) m.iS
  refine codeAny_builtin PySem.F.entry_min_loop ?_
  rw [Around.under_plainId (A := A1) PySem.F.plain_min_loop]
  change wpAny _ A1.in1 (seqItems? (.ref S) >>= _) _ _ s
  refine wpAny_bind (wpAny_seqItems hS rfl ?_)
  change wpAny _ A1.in1 (tryCatch (pyNext (.ref it)) _ >>= _) _ _ s
  refine wpAny_bind (wpAny_tryCatch (DSub.py_end hc (itO_get I atI) pl.isList (by rw [List.getElem?_toArray]; exact rv.none_of (List.getElem?_eq_none (Nat.le_refl _))) fun h' e1 eb => ?_))
  have I1 : Inv X pins σ (upd (HM H l it S xs.length #[.ref p, .ref p] c) it (ItE it xs.length)) { s with heap := h' } :=
    I.write (x := it) (e := it) (t' := s.toks) (by rw [atI]; exact True.intro) (.inl rfl) (fun b o nb z => eb b o nb z) ⟨_, e1⟩ (itE_ok e1)
  have hS1 : h'.get? S = some (lstO #[.ref p, .ref p] c) := eb S _ (Ne.symm m.iS) hS
  change wpAny _ A1.in1 (updateSeq S (fun _ => #[]) >>= _) _ _ _
  have e2 := Heap.get?_update_self (Obj.mapSeq fun _ => (#[] : Array Value)) hS1 rfl
  have I2 := I1.write (x := S) (e := S) (t' := s.toks) (h' := h'.update S (Obj.mapSeq fun _ => #[])) (by rw [upd_ne (Ne.symm m.iS), hm_S]; exact True.intro) (.inl rfl) (fun b o nb z => (Heap.get?_update_other _ _ (Ne.symm nb)).trans z) ⟨_, e2⟩ (sO_ok e2)
  rw [hm_end m.iS] at I2
  have I3 := ItX.inv_drop I2 upd_same
  rw [ItX.dropH_upd (by rw [upd_ne (Ne.symm m.iS)]; exact m.nS)] at I3
  have I4 := ItX.inv_drop (a := it) (φ := fun h => h.get? it = some (GNX.itEnd xs.length)) I3 upd_same
  rw [ItX.dropH_upd m.ni] at I4
  exact wpAny_bind (wpAny_updateSeq hS1 rfl (wpAny_bind (wpAny_letGo (wpAny_pure (hdone _ I4)))))
theorem min_go (hc : A1.in1.handled = none) (hu : A1.in1.units < cLine) (m : MinT X.K H l it S xs ps ns) (hdone : ∀ t, Inv X pins σ H t → Rs (.ok (.ret (.ref (ps (bestT ns (xs.length - 1)))))) t) :
    ∀ (k i : Nat) (c : Nat) (s : Shared), xs.length - (i + 1) = k → i + 1 ≤ xs.length → Inv X pins σ (HM H l it S (i + 1) #[.ref (ps (bestT ns i)), .ref (ps (bestT ns i))] c) s → codeAny (model X.prog X.w) A1 (minC it S) Rs s := by
  intro k
  induction k with
  | zero =>
    intro i c s hk hi I
    have e : i + 1 = xs.length := by omega
    have e' : xs.length - 1 = i := by omega
    rw [e] at I
    rw [e'] at hdone
    exact min_end hc m I hdone
  | succ k ih =>
    intro i c s hk hi I
    have lt : i + 1 < xs.length := by omega
    have lb : bestT ns i < xs.length := by
      have := bestT_le ns i
      omega
    generalize hp : ps (bestT ns i) = p at I
    have hS : s.heap.get? S = some (lstO #[.ref p, .ref p] c) := (I.hok S _ hm_S).1
    obtain ⟨its, rv, pl, -⟩ := I.list (m.list (i + 1) #[.ref p, .ref p] c)
    have atI := hm_it (H := H) (l := l) (i := i + 1) (arr := #[Value.ref p, .ref p]) (c := c) m.iS
    obtain ⟨w', hw, rw'⟩ := rv.get (m.at_ _ lt).1
    cases rw'
    refine codeAny_builtin PySem.F.entry_min_loop ?_
    rw [Around.under_plainId (A := A1) PySem.F.plain_min_loop]
    change wpAny _ A1.in1 (seqItems? (.ref S) >>= _) _ _ s
    refine wpAny_bind (wpAny_seqItems hS rfl ?_)
    change wpAny _ A1.in1 (tryCatch (pyNext (.ref it)) _ >>= _) _ _ s
    refine wpAny_bind (wpAny_tryCatch (DSub.py_item (itO_get I atI) pl.isList (by rw [List.getElem?_toArray]; exact hw) fun h' e1 sb => ?_))
    have I1 : Inv X pins σ (HM H l it S (i + 1 + 1) #[.ref p, .ref p] c) { s with heap := h' } := by
      have J := I.write (x := it) (e := it) (t' := s.toks) (by rw [atI]; exact True.intro) (.inl rfl) (fun b o nb z => (sb.2 b nb).trans z) ⟨_, e1⟩ (itO_ok e1)
      rw [hm_setIt m.iS] at J
      exact J
    have hS1 : h'.get? S = some (lstO #[.ref p, .ref p] c) := (sb.2 S (Ne.symm m.iS)).trans hS
    change wpAny _ A1.in1 (tryCatch (holding [.ref (ps (i + 1)), .ref (ps (i + 1))] (richCompare .Lt (.ref (ps (i + 1))) (.ref p) >>= _)) _ >>= _) _ _ _
    obtain ⟨i1, r1, p1, _⟩ := I1.tuple (m.tup lt (i + 1 + 1) #[.ref p, .ref p] c)
    obtain ⟨i2, r2, p2, _⟩ := I1.tuple (m.tup lb (i + 1 + 1) #[.ref p, .ref p] c)
    rw [hp] at p2
    refine wpAny_bind (wpAny_tryCatch (wpAny_holding (wpAny_bind (HT.lt_tupInts p1 p2 (intsAre_of r1) (intsAre_of r2) hu ?_))))
    refine wpAny_bind (wpAny_holding (wpAny_truthy_bool (wpAny_bind (wpAny_letGo (wpAny_pure ?_)))))
    have eb : bestT ns (i + 1) = if HT.lexLt (ns (i + 1)) (ns (bestT ns i)) = true then i + 1 else bestT ns i := rfl
    cases hb : HT.lexLt (ns (i + 1)) (ns (bestT ns i)) with
    | true =>
      rw [hb, if_pos rfl] at eb
      simp only [if_true]
      obtain ⟨c2, e2⟩ : ∃ c2, (h'.update S (Obj.mapSeq fun _ => #[Value.ref (ps (i + 1)), .ref (ps (i + 1))])).get? S = some (lstO #[Value.ref (ps (i + 1)), .ref (ps (i + 1))] c2) := ⟨_, Heap.get?_update_self (Obj.mapSeq fun _ => #[Value.ref (ps (i + 1)), .ref (ps (i + 1))]) hS1 rfl⟩
      have I2 := I1.write (x := S) (e := S) (t' := s.toks) (h' := h'.update S (Obj.mapSeq fun _ => #[Value.ref (ps (i + 1)), .ref (ps (i + 1))])) (by rw [hm_S]; exact True.intro) (.inl rfl) (fun b o nb z => (Heap.get?_update_other _ _ (Ne.symm nb)).trans z) ⟨_, e2⟩ (sO_ok e2)
      rw [hm_setS] at I2
      refine wpAny_bind (wpAny_updateSeq hS1 rfl (wpAny_bind (wpAny_letGo (wpAny_pure ⟨plainId_quiet PySem.F.plain_min_loop _, ih (i + 1) c2 _ (by omega) lt ?_⟩))))
      rw [eb]
      exact I2
    | false =>
      rw [hb, if_neg Bool.false_ne_true] at eb
      simp only [Bool.false_eq_true, if_false]
      refine wpAny_bind (wpAny_letGo (wpAny_pure ⟨plainId_quiet PySem.F.plain_min_loop _, ih (i + 1) c _ (by omega) lt ?_⟩))
      rw [eb, hp]
      exact I1
/-- the first turn -/
theorem min_start (hc : A1.in1.handled = none) (hu : A1.in1.units < cLine) (m : MinT X.K H l it S xs ps ns) (pos : 0 < xs.length) (hdone : ∀ t, Inv X pins σ H t → Rs (.ok (.ret (.ref (ps (bestT ns (xs.length - 1)))))) t) {c : Nat} {s : Shared} (I : Inv X pins σ (HM H l it S 0 #[] c) s) :
    codeAny (model X.prog X.w) A1 (minC it S) Rs s := by
  have hS : s.heap.get? S = some (lstO #[] c) := (I.hok S _ hm_S).1
  obtain ⟨its, rv, pl, -⟩ := I.list (m.list 0 #[] c)
  have atI := hm_it (H := H) (l := l) (i := 0) (arr := #[]) (c := c) m.iS
  obtain ⟨w', hw, rw'⟩ := rv.get (m.at_ _ pos).1
  cases rw'
  refine codeAny_builtin PySem.F.entry_min_loop ?_
  rw [Around.under_plainId (A := A1) PySem.F.plain_min_loop]
  change wpAny _ A1.in1 (seqItems? (.ref S) >>= _) _ _ s
  refine wpAny_bind (wpAny_seqItems hS rfl ?_)
  change wpAny _ A1.in1 (tryCatch (pyNext (.ref it)) _ >>= _) _ _ s
  refine wpAny_bind (wpAny_tryCatch (DSub.py_item (itO_get I atI) pl.isList (by rw [List.getElem?_toArray]; exact hw) fun h' e1 sb => ?_))
  have I1 : Inv X pins σ (HM H l it S (0 + 1) #[] c) { s with heap := h' } := by
    have J := I.write (x := it) (e := it) (t' := s.toks) (by rw [atI]; exact True.intro) (.inl rfl) (fun b o nb z => (sb.2 b nb).trans z) ⟨_, e1⟩ (itO_ok e1)
    rw [hm_setIt m.iS] at J
    exact J
  have hS1 : h'.get? S = some (lstO #[] c) := (sb.2 S (Ne.symm m.iS)).trans hS
  change wpAny _ A1.in1 (updateSeq S (fun _ => #[.ref (ps 0), .ref (ps 0)]) >>= _) _ _ _
  obtain ⟨c2, e2⟩ : ∃ c2, (h'.update S (Obj.mapSeq fun _ => #[Value.ref (ps 0), .ref (ps 0)])).get? S = some (lstO #[Value.ref (ps 0), .ref (ps 0)] c2) := ⟨_, Heap.get?_update_self (Obj.mapSeq fun _ => #[Value.ref (ps 0), .ref (ps 0)]) hS1 rfl⟩
  have I2 := I1.write (x := S) (e := S) (t' := s.toks) (h' := h'.update S (Obj.mapSeq fun _ => #[Value.ref (ps 0), .ref (ps 0)])) (by rw [hm_S]; exact True.intro) (.inl rfl) (fun b o nb z => (Heap.get?_update_other _ _ (Ne.symm nb)).trans z) ⟨_, e2⟩ (sO_ok e2)
  rw [hm_setS] at I2
  exact wpAny_bind (wpAny_updateSeq hS1 rfl (wpAny_pure ⟨plainId_quiet PySem.F.plain_min_loop _, min_go hc hu m hdone _ 0 c2 _ rfl pos I2⟩))
/-- min(xs) -/
def rMinT (K : PySem.W.Frag) : List V → Hp → VK → Prop := fun vs H Q => ∃ (a : Addr) (xs : List V) (ps : Nat → Addr) (ns : Nat → List Int), vs = [V.ref a] ∧ SqL K H a xs ∧ 0 < xs.length ∧
  (∀ i, i < xs.length → xs[i]? = some (.ref (ps i)) ∧ SqT K H (ps i) ((ns i).map V.int)) ∧ Q (.ref (ps (bestT ns (xs.length - 1)))) H
theorem cr_minT (hc : X.calm = true) (hu : X.A.units + 2 < cLine) : CallR X (.builtin "min") (rMinT X.K) := by
  rintro pins s σ H _ us Q I rel ⟨a, xs, ps, ns, rfl, sq, pos, at_, q⟩
  obtain ⟨its, rv, pl, -⟩ := I.list sq
  rw [Vals.ref1 rel]
  refine call_function_tree PySem.F.kind_min PySem.F.plain_min PySem.F.entry_min (PySem.F.args_min1 _) ?_
  change wpAny _ X.A.in1 (Builtin.Builtins.bindParams "min" ["key", "default"] 0 ⟨[], []⟩ >>= _) _ _ s
  refine wpAny_bind (wpAny_of_eq (show Builtin.Builtins.bindParams "min" ["key", "default"] 0 ⟨[], []⟩ = pure [none, none] from rfl) (wpAny_bind (wpAny_pure (wpAny_bind (wpAny_pyIter_list pl.isList ?_)))))
  have f0 : H s.heap.objs.size = none := I.hok.fresh (Nat.le_refl _)
  have I1 : Inv X pins σ (upd H s.heap.objs.size (ItO a s.heap.objs.size 0)) { s with heap := s.heap.push (GNX.itObj a 0) } := I.laid (t' := s.toks) (fun b u e => Heap.get?_push_of_some _ e) (Nat.le_refl _) (itO_ok (Heap.get?_push_size _ rfl))
  generalize hit : s.heap.objs.size = it at f0 I1
  refine wpAny_bind (wpAny_newObj_type ?_)
  have e2 : ((s.heap.push (GNX.itObj a 0)).push (lstO #[] 0)).get? (s.heap.push (GNX.itObj a 0)).objs.size = some (lstO #[] 0) := Heap.get?_push_size _ rfl
  have f1 : upd H it (ItO a it 0) (s.heap.push (GNX.itObj a 0)).objs.size = none := I1.hok.fresh (Nat.le_refl _)
  have I2 : Inv X pins σ (HM H a it (s.heap.push (GNX.itObj a 0)).objs.size 0 #[] 0) { s with heap := (s.heap.push (GNX.itObj a 0)).push (lstO #[] 0) } :=
    I1.laid (t' := s.toks) (fun b u e => Heap.get?_push_of_some _ e) (Nat.le_refl _) (sO_ok e2)
  have lS : it < (s.heap.push (GNX.itObj a 0)).objs.size := by
    rw [← hit, Heap.size_push]
    exact Nat.lt_succ_self _
  generalize (s.heap.push (GNX.itObj a 0)).objs.size = S at f1 I2 lS ⊢
  have iS : it ≠ S := fun z => by rw [← z, upd_same] at f1; cases f1
  have fS : H S = none := by rw [← f1, upd_ne (Ne.symm iS)]
  have off : ∀ {b : Addr} {o : Obj}, s.heap.get? b = some o → b ≠ it ∧ b ≠ S := fun h => by
    have z := Heap.lt_size h
    rw [hit] at z
    exact ⟨Nat.ne_of_lt z, Nat.ne_of_lt (Nat.lt_trans z lS)⟩
  have la : ∃ o, s.heap.get? a = some o := pl.isList.imp fun o h => h.1
  have lt : ∀ i, i < xs.length → ∃ o, s.heap.get? (ps i) = some o := fun i hi => by
    obtain ⟨_, -, p, -⟩ := I.tuple (at_ i hi).2
    exact p.imp fun o h => h.1
  have m : MinT X.K H a it S xs ps ns := ⟨la.elim fun o e => (off e).1, la.elim fun o e => (off e).2, iS, f0, fS, sq, fun i hi => ⟨(at_ i hi).1, (at_ i hi).2, (lt i hi).elim fun o e => off e⟩⟩
  exact wpAny_pure ⟨plainId_quiet PySem.F.plain_min_loop _, min_start (X := X) (A1 := X.A) (I2.ok.hd hc) (show X.A.units + 1 < cLine by omega) m pos (fun t J => ⟨.ref (ps (bestT ns (xs.length - 1))), H, J, rfl, q⟩) I2⟩
theorem crMinT {X : Cx} (K : PySem.W.Frag) (hu : X.A.units + 2 < cLine) (hc : X.calm = true := by rfl) (h : X.K = K := by rfl) : CallR X (.builtin "min") (rMinT K) := h ▸ cr_minT hc hu
end
/-- the least row, the first of several -/
def minRow (rows : List (List Int)) : List Int := rows.getD (bestT (fun i => rows.getD i []) (rows.length - 1)) []
theorem minRow_in {rows : List (List Int)} (ne : rows ≠ []) : minRow rows ∈ rows := by
  have pos := List.length_pos_iff.mpr ne
  have := bestT_le (fun i => rows.getD i []) (rows.length - 1)
  exact getD_in (by omega) _
section
variable {K : PySem.W.Frag} {ss : Sl} {mem m1 : List Mc} {te : TE}
theorem dt_minT {rows : List (List Int)} (h : DT K te ss mem (.dat (.lst (rows.map rowD))) m1) (ne : rows ≠ []) : DT K (tCB (rMinT K) (tCons te tNil)) ss mem (.dat (rowD (minRow rows))) m1 := fun B H al σ Q S q =>
  h B H al σ _ S fun B1 H1 al1 v P1 S1 r1 => by
    cases r1 with
    | @lst l xs _ s r =>
      have len : xs.length = rows.length := by rw [r.len, List.length_map]
      have pos := List.length_pos_iff.mpr ne
      have pick : ∀ i, i < rows.length → ∃ p : Addr, xs[i]? = some (.ref p) ∧ B1 p = some (.tup ((rows.getD i []).map V.int)) := fun i hi => by
        have e : (rows.map rowD)[i]? = some (rowD (rows.getD i [])) := by
          rw [List.getElem?_map, List.getD_eq_getElem?_getD, List.getElem?_eq_getElem hi]
          rfl
        obtain ⟨v, h1, h2⟩ := r.get e
        obtain ⟨p, rfl, h3⟩ := rep_key h2
        refine ⟨p, h1, ?_⟩
        rw [h3]
        unfold ik
        rw [List.map_map]
        rfl
      let ps : Nat → Addr := fun i => if hi : i < rows.length then (pick i hi).choose else 0
      have hps : ∀ i, i < rows.length → xs[i]? = some (.ref (ps i)) ∧ B1 (ps i) = some (.tup ((rows.getD i []).map V.int)) := fun i hi => by
        have e : ps i = (pick i hi).choose := dif_pos hi
        rw [e]
        exact (pick i hi).choose_spec
      refine ⟨l, xs, ps, fun i => rows.getD i [], rfl, S1.seqL s, by omega, fun i hi => ⟨(hps i (by omega)).1, SqT.of (S1.sub _ _ (hps i (by omega)).2)⟩, ?_⟩
      rw [len]
      have lb : bestT (fun i => rows.getD i []) (rows.length - 1) < rows.length := by
        have := bestT_le (fun i => rows.getD i []) (rows.length - 1)
        omega
      obtain ⟨g1, g2⟩ := hps _ lb
      have e : (rows.map rowD)[bestT (fun i => rows.getD i []) (rows.length - 1)]? = some (rowD (minRow rows)) := by
        unfold minRow
        rw [List.getElem?_map, List.getD_eq_getElem?_getD, List.getElem?_eq_getElem lb]
        rfl
      obtain ⟨v, h1, h2⟩ := r.get e
      rw [g1] at h1
      cases h1
      exact q _ _ _ _ P1 S1 h2
end
end DL
end
section
set_option Elab.async false
set_option linter.all false
set_option maxRecDepth 100000
/-! a, b = xs with xs a list; not xs, if xs -/
namespace DL
open PySem PySem.Spec PyProof.Rows L2
theorem pgLst {X : Cx} (K : PySem.W.Frag) (n : Nat) {es : List Expr} {k : Nat} {pos : Pos} {t : TGs} (ht : PGs X es t) (hc : X.calm = true := by rfl) (h : X.K = K := by rfl) (hn : (assignEach es X.env).length = n := by rfl) (hst : (assignEach es X.env).findIdx? (·.1) = none := by rfl) : PG X (.Tuple es k pos) (gUnl K n t) :=
  h ▸ pg_unl hc ht hn hst
section
variable {K : PySem.W.Frag} {ss ss1 : Sl} {mem m1 : List Mc} {te : TE}
theorem dg_lst {gs : TGs} {n : Nat} {ds : List D} {ws : List Nat} (h : DGs K gs ss ds ss1 ws) (hn : ds.length = n) : DG K (gUnl K n gs) ss (.lst ds) ss1 ws := fun B H al σ mem v Q S r k => by
  cases r with
  | lst s r => exact ⟨_, _, rfl, S.seqL s, by rw [r.len]; exact hn, h B H al σ mem _ Q S r k⟩
theorem dt_notL {ds : List D} (h : DT K te ss mem (.dat (.lst ds)) m1) : DT K (tNotT K te) ss mem (.dat (.bl ds.isEmpty)) m1 := fun B H al σ Q S k =>
  h B H al σ _ S fun B1 H1 al1 v P1 S1 r1 => by
    cases r1 with
    | @lst a xs _ s r =>
      have e : (!(!xs.isEmpty)) = ds.isEmpty := by
        cases r <;> rfl
      refine ⟨!xs.isEmpty, .inl ⟨xs, S1.seqL s, rfl⟩, ?_⟩
      rw [e]
      exact k _ _ _ _ P1 S1 (.bl _)
/-- the test of a list -/
def tTruL (K : PySem.W.Frag) (te : TE) : TT := fun σ H Q => te σ H fun x H' => ∃ k, TruV K x H' k ∧ Q k H'
theorem ptTru {X : Cx} (K : PySem.W.Frag) {e : Expr} {te : TE} (h : PE X e te) (hK : X.K = K := by rfl) (he : ∀ whole, isTrue e X.env whole = (do let v ← whole; standAt e.pos; holding [v] (truthy v)) := by intro _; rfl) : PT X e (tTruL K te) := hK ▸ pt_truth h he
theorem db_truL {ds : List D} (h : DT K te ss mem (.dat (.lst ds)) m1) : DB K (tTruL K te) ss mem (!ds.isEmpty) m1 := fun B H al σ Q S k =>
  h B H al σ _ S fun B1 H1 al1 v P1 S1 r1 => by
    cases r1 with
    | @lst a xs _ s r =>
      have e : (!xs.isEmpty) = !ds.isEmpty := by
        cases r <;> rfl
      refine ⟨!xs.isEmpty, .inl ⟨xs, S1.seqL s, rfl⟩, ?_⟩
      rw [e]
      exact k _ _ _ P1 S1
theorem peNotT {X : Cx} (K : PySem.W.Frag) {e : Expr} {te : TE} {pos : Pos} (h : PE X e te) (hK : X.K = K := by rfl) : PE X (.UnaryOp .Not e pos) (tNotT K te) := hK ▸ pe_notT h
theorem dt_eqS {ta tb : TE} {m2 : List Mc} {x y : Str} (ha : DT K ta ss mem (.dat (.str x)) m1) (hb : DT K tb ss m1 (.dat (.str y)) m2) : DT K (tOp rEq ta tb) ss mem (.dat (.bl (decide (x = y)))) m2 :=
  dt_op ha hb fun B H al σ v w Q S hv hw k => by
    cases hv
    cases hw
    refine ⟨rfl, k _ _ _ _ (Stp.refl _ _ _) S ?_⟩
    have e : decide (V.str x = V.str y) = decide (x = y) := by simp
    rw [e]
    exact .bl _
end
end DL
end
section
set_option Elab.async false
set_option linter.all false
set_option maxRecDepth 100000
/-! x += e; a loop that carries a state and may answer in a turn -/
namespace DL
open PySem PySem.Spec PyProof.Rows L2
section
variable {K : PySem.W.Frag} {ss : Sl} {mem m1 : List Mc} {te : TE}
theorem ds_aug {g : Int → Int → Int} {i : Nat} {a b : Int} (hi : ss[i]? = some (some (.dat (.int a)))) (h : DT K te ss mem (.dat (.int b)) m1) : DS K (tAug i te (ipI g)) ss mem (.nx (ss.set i (some (.dat (.int (g a b))))) m1) := fun B H al σ Dn S k => by
  obtain ⟨v, h1, h2⟩ := S.slot i _ hi
  cases h2
  refine ⟨_, h1, h B H al σ _ S fun B1 H1 al1 v P1 S1 r1 => ?_⟩
  cases r1
  exact ⟨a, b, rfl, rfl, k _ _ _ P1 _ (S1.put fun q e => by cases e; exact .int _)⟩
/-- the state behind so many turns, while no turn answers -/
def runE {α : Type} (step : α → Nat → Option α) (a : α) : Nat → Option α
  | 0 => some a
  | n + 1 => (runE step a n).bind fun b => step b n
theorem runE_some {α : Type} {step : α → Nat → Option α} {a : α} {n : Nat} {b : α} (h : runE step a (n + 1) = some b) : ∃ c, runE step a n = some c ∧ step c n = some b := by
  unfold runE at h
  cases q : runE step a n with
  | none => rw [q] at h; cases h
  | some c => rw [q] at h; exact ⟨c, rfl, h⟩
theorem runE_down {α : Type} {step : α → Nat → Option α} {a : α} : ∀ {n : Nat}, (runE step a n).isSome = true → ∀ i, i ≤ n → (runE step a i).isSome = true
  | 0, h, i, hi => by
    have : i = 0 := by omega
    rw [this]
    exact h
  | n + 1, h, i, hi => by
    rcases Nat.lt_or_ge n i with g | g
    · have : i = n + 1 := by omega
      rw [this]
      exact h
    · obtain ⟨b, hb⟩ := Option.isSome_iff_exists.mp h
      obtain ⟨c, hc, -⟩ := runE_some hb
      exact runE_down (by rw [hc]; rfl) i g
/-- the first turn that answers -/
theorem runE_none {α : Type} {step : α → Nat → Option α} {a : α} : ∀ {n : Nat}, runE step a n = none → ∃ j b, j < n ∧ runE step a j = some b ∧ step b j = none
  | 0, h => by cases h
  | n + 1, h => by
    cases q : runE step a n with
    | none =>
      obtain ⟨j, b, hj, h1, h2⟩ := runE_none q
      exact ⟨j, b, by omega, h1, h2⟩
    | some c =>
      unfold runE at h
      rw [q] at h
      exact ⟨n, c, Nat.lt_succ_self _, q, h⟩
theorem ds_forE {α : Type} {wi : TI} {k : Nat} {tb : TS} {n : Nat} {it : Nat → D} (ks : List Nat) (g : α → Sl) (step : α → Nat → Option α) (r : Vl) (I : α → Prop) (a0 : α) (i0 : I a0) (f0 : wipeS ss ks = g a0) (hi : DI K wi (g a0) mem n it mem)
    (ho : ∀ a, ownsUnder mem.length (g a) = true)
    (go : ∀ a i a', I a → i < n → step a i = some a' → I a' ∧ ∃ s', DS K tb ((g a).set k (some (.dat (it i)))) mem (.nx s' mem) ∧ wipeS s' ks = g a')
    (stop : ∀ a i, I a → i < n → step a i = none → DS K tb ((g a).set k (some (.dat (it i)))) mem (.rt r mem)) :
    DS K (tFor wi (gName k) tb) ss mem (match runE step a0 n with | some a => .nx (g a) mem | none => .rt r mem) := by
  let st : Nat → α := fun i => (runE step a0 i).getD a0
  have inv : ∀ i, i ≤ n → (runE step a0 i).isSome = true → I (st i) := fun i => by
    induction i with
    | zero => exact fun _ _ => i0
    | succ i ih =>
      intro le h
      obtain ⟨b, hb⟩ := Option.isSome_iff_exists.mp h
      obtain ⟨c, hc, hs⟩ := runE_some hb
      have e : st i = c := by show (runE step a0 i).getD a0 = c; rw [hc]; rfl
      have e2 : st (i + 1) = b := by show (runE step a0 (i + 1)).getD a0 = b; rw [hb]; rfl
      have z := ih (by omega) (by rw [hc]; rfl)
      rw [e] at z
      rw [e2]
      exact (go c i b z (by omega) hs).1
  have turn : ∀ i, i < n → (runE step a0 (i + 1)).isSome = true → ∃ ss' ws, DG K (gName k) (g (st i)) (it i) ss' ws ∧ (DS K tb ss' mem (.nx (g (st (i + 1))) mem) ∨ DS K tb ss' mem (.ct (g (st (i + 1))) mem)) := fun i lt h => by
    obtain ⟨b, hb⟩ := Option.isSome_iff_exists.mp h
    obtain ⟨c, hc, hs⟩ := runE_some hb
    have e : st i = c := by show (runE step a0 i).getD a0 = c; rw [hc]; rfl
    have e2 : st (i + 1) = b := by show (runE step a0 (i + 1)).getD a0 = b; rw [hb]; rfl
    have z := inv i (by omega) (by rw [hc]; rfl)
    rw [e] at z ⊢
    rw [e2]
    obtain ⟨-, s', d, w⟩ := go c i b z lt hs
    exact ⟨_, _, dg_name, .inl (ds_shed ks [] (by rw [List.append_nil]; exact d) w (ho b) (Nat.le_refl _))⟩
  cases q : runE step a0 n with
  | some a =>
    have e : st n = a := by show (runE step a0 n).getD a0 = a; rw [q]; rfl
    dsimp only
    rw [← e]
    exact ds_pre ks f0 (ds_for hi (fun i => g (st i)) (fun _ => mem) rfl rfl n (Nat.le_refl _) (fun i lt => turn i lt (runE_down (by rw [q]; rfl) (i + 1) lt)) (.inl ⟨rfl, rfl⟩))
  | none =>
    obtain ⟨j, b, hj, h1, h2⟩ := runE_none q
    have e : st j = b := by show (runE step a0 j).getD a0 = b; rw [h1]; rfl
    have z := inv j (by omega) (by rw [h1]; rfl)
    rw [e] at z
    refine ds_pre ks f0 (ds_for hi (fun i => g (st i)) (fun _ => mem) rfl rfl j (by omega) (fun i lt => turn i (by omega) (runE_down (by rw [h1]; rfl) (i + 1) lt)) (.inr ⟨hj, _, _, dg_name, .inl ⟨r, mem, ?_, rfl⟩⟩))
    show DS K tb ((g (st j)).set k _) mem _
    rw [e]
    exact stop b j z hj h2
theorem ds_thenE {α : Type} {t u : TS} {o : Option α} {g : α → Sl} {R : α → D} {d : D} (h : DS K t ss mem (match o with | some a => .nx (g a) mem | none => .rt (.dat d) mem)) (h2 : ∀ a, o = some a → DS K u (g a) mem (.rt (.dat (R a)) mem)) :
    DS K (tSeq t u) ss mem (.rt (.dat (o.elim d R)) mem) := by
  cases o with
  | none => exact ds_stop h
  | some a => exact ds_seq h (h2 a rfl)
end
end DL
end
section
set_option Elab.async false
set_option linter.all false
set_option maxRecDepth 100000
/-! x not in a tuple of texts of the module's top -/
namespace DL
open PySem PySem.Spec PyProof.Rows L2
theorem opNotInC {X : Cx} (K : PySem.W.Frag) (h : X.K = K := by rfl) : OpR X (compareOp .NotIn) (rIn K true) := h ▸ op_notIn_seq
section
variable {K : PySem.W.Frag} {ss : Sl} {mem m1 m2 : List Mc} {ta tb : TE}
theorem reps_str {B : Hp} : ∀ vs : List Str, RepAll K B (vs.map V.str) (vs.map D.str)
  | [] => .nil
  | v :: vs => .cons (.str v) (reps_str vs)
theorem vals_str {B : Hp} : ∀ {vs : List Str} {xs : List V}, RepAll K B xs (vs.map D.str) → xs = vs.map V.str
  | [], _, h => by cases h; rfl
  | v :: vs, _, h => by
    cases h with
    | cons h1 h2 =>
      cases h1
      rw [vals_str h2]
      rfl
theorem dt_gctp {a : Addr} {vs : List Str} (h : ∀ H : Hp, SqT K H a (vs.map V.str)) : DT K (tC (.ref a)) ss mem (.dat (.ctp (vs.map D.str))) mem := dt_c fun B => .ctp (h B) (reps_str vs)
theorem dt_notInC {x : Str} {vs : List Str} (ha : DT K ta ss mem (.dat (.str x)) m1) (hb : DT K tb ss m1 (.dat (.ctp (vs.map D.str))) m2) : DT K (tOp (rIn K true) ta tb) ss mem (.dat (.bl (!decide (x ∈ vs)))) m2 :=
  dt_op ha hb fun B H al σ v w Q S hv hw k => by
    cases hv
    cases hw with
    | @ctp a xs _ s r =>
      have e := vals_str r
      subst e
      have fl : (vs.map V.str).all flatV = true := by
        rw [List.all_eq_true]
        intro y hy
        obtain ⟨z, -, rfl⟩ := List.mem_map.mp hy
        rfl
      have eq : (!inV (.str x) (vs.map V.str)) = !decide (x ∈ vs) := by
        congr 1
        unfold inV
        rw [List.any_map, Bool.eq_iff_iff, List.any_eq_true, decide_eq_true_iff]
        constructor
        · rintro ⟨y, hy, e⟩
          have : y = x := by simpa [eqV] using e
          exact this ▸ hy
        · exact fun h => ⟨x, h, by simp [eqV]⟩
      refine ⟨a, vs.map V.str, rfl, .inr (S.seqT s), rfl, fl, ?_⟩
      rw [if_pos rfl, eq]
      exact k _ _ _ _ (Stp.refl _ _ _) S (.bl _)
end
end DL
end
section
set_option Elab.async false
set_option linter.all false
set_option maxRecDepth 100000
/-! (a, *xs), xs.extend(ys) -/
namespace DL
open PySem PySem.Spec PyProof.Rows L2
section
variable {K : PySem.W.Frag} {ss : Sl} {mem m1 m2 : List Mc} {te to : TE} {t : TA}
theorem paStar {X : Cx} (K : PySem.W.Frag) {e : Expr} {es : List Expr} {te : TE} {t : TA} {p : Pos} (he : PE X e te) (hr : PA X es t) (h : X.K = K := by rfl) (hs : starEach (.Starred e p :: es) X.env = (true, eval e X.env) :: starEach es X.env := by rfl) : PA X (.Starred e p :: es) (StX.tStar K te t) := h ▸ StX.pa_star he hr hs
theorem da_star {ds es : List D} (h : DT K te ss mem (.dat (.tup ds)) m1) (g : DA K t ss m1 es m2) : DA K (StX.tStar K te t) ss mem (ds ++ es) m2 := fun B H al σ Q S k =>
  h B H al σ _ S fun B1 H1 al1 v P1 S1 r1 => by
    cases r1 with
    | @tup a xs _ s r =>
      refine ⟨a, xs, rfl, .inl (S1.seqT (SqT.of s)), g B1 H1 al1 σ _ S1 fun B2 H2 al2 vs P2 S2 r2 => ?_⟩
      exact k _ _ _ _ (P1.trans P2) S2 ((RepAll.mono P2.same _ r).append r2)
theorem dt_extend {n : Nat} {ds es : List D} (ho : DT K to ss mem (.own n) m1) (h : DT K te ss m1 (.tl es) m2) (hm1 : m1[n]? = some (.lst ds)) (hm : m2[n]? = some (.lst ds)) (hl : ds.length + es.length ≤ 16777216) :
    DT K (tBM K "list" rExtend to (tCons te tNil)) ss mem (.dat .non) (m2.set n (.lst (ds ++ es))) := fun B H al σ Q S q =>
  ho B H al σ _ S fun B1 H1 al1 v P1 S1 r1 => by
    obtain ⟨a, a1, rfl⟩ := r1
    obtain ⟨_, xs0, a2, _⟩ := S1.mem n a _ a1 hm1
    refine ⟨.inl ⟨rfl, xs0, SqL.of a2⟩, h B1 H1 al1 σ _ S1 fun B2 H2 al2 w P2 S2 r2 => ?_⟩
    obtain ⟨b, zs, rfl, b1, b2⟩ := r2
    have a1' := P2.get a1
    obtain ⟨b0, xs, c2, c3⟩ := S2.mem n a _ a1' hm
    obtain ⟨P3, S3⟩ := S2.write (o := .lst (xs ++ zs)) (m := .lst (ds ++ es)) a1' b0 ⟨b0, _, upd_same, c3.append b2⟩
    exact ⟨a, b, xs, zs, rfl, rfl, c2, S2.sub _ _ b1, by rw [c3.len, b2.len, sizeLine_eq]; exact hl, q _ _ _ _ ((P1.trans P2).trans P3) S3 .non⟩
/-- a comprehension over a list, any target, said by its items -/
theorem dt_lcGT {α : Type} {g : TG} {vs : List Nat} {tx : TE} (gd : α → D) (z : α) (l : List α) (h : DT K te ss mem (.dat (.lst (l.map gd))) m1) (few : l.length ≤ 16777216) (v : α → D)
    (step : ∀ x ∈ l, ∃ s1 ws, DG K g (wipeS ss vs) (gd x) s1 ws ∧ (∀ w ∈ ws, w ∈ vs) ∧ DT K tx s1 m1 (.dat (v x)) m1) : DT K (tLc (iList K te) g tYes tx vs) ss mem (.tl (l.map v)) m1 := by
  have e : l.map v = (List.range l.length).map fun i => v (l.getD i z) := by
    conv => lhs; rw [← range_get z l]
    rw [List.map_map]
    rfl
  rw [e]
  refine dt_lcMapT (di_map gd l h) (fun i => v (l.getD i z)) few fun i hi => ?_
  rw [nthD_map gd hi z]
  exact step _ (getD_in hi z)
end
end DL
end
section
set_option Elab.async false
set_option linter.all false
set_option maxRecDepth 100000
/-! abs, sum, products of great ints, an own list beside a written one, pop, while -/
namespace DL
open PySem PySem.Spec PyProof.Rows L2
section
variable {K : PySem.W.Frag} {ss ss1 : Sl} {mem m1 m2 : List Mc} {te ta tb to : TE} {i : Int} {d : D} {ds es : List D}
/-- abs of an int -/
def rAbs : List V → Hp → VK → Prop := fun xs _H Q => ∃ i, xs = [.int i] ∧ Q (.int (if i < 0 then -i else i)) _H
theorem callAbs {X : Cx} : CallR X (.builtin "abs") rAbs := call_abs
theorem dt_abs (h : DT K te ss mem (.dat (.int i)) m1) : DT K (tCB rAbs (tCons te tNil)) ss mem (.dat (.int (if i < 0 then -i else i))) m1 := fun B H al σ Q S k =>
  h B H al σ _ S fun _ _ _ _ P1 S1 r1 => by
    cases r1
    exact ⟨i, rfl, k _ _ _ _ P1 S1 (.int _)⟩
theorem callSum {X : Cx} (K : PySem.W.Frag) (hc : X.calm = true) (h : X.K = K := by rfl) : CallR X (.builtin "sum") (rSum K) := h ▸ cr_sum hc
theorem dt_sumL {ns : List Int} (h : DT K te ss mem (.dat (.lst (ns.map .int))) m1) : DT K (tCB (rSum K) (tCons te tNil)) ss mem (.dat (.int ns.sum)) m1 := fun B H al σ Q S k =>
  h B H al σ _ S fun _ _ _ v P1 S1 r1 => by
    cases r1 with
    | lst s r =>
      cases r.ints
      exact ⟨_, ns, rfl, S1.seqL s, k _ _ _ _ P1 S1 (.int _)⟩
/-- * of two ints whose bits together are below the model's line -/
theorem op_mulB {X : Cx} : OpR X (binaryOp .Mult) (rI IntMulOk fun i j => .int (i * j)) := opI fun _ _ _ _ _ _ _ hc q => mul_int q hc
/-- own != written, both lists of plain data -/
theorem dt_neOL {n p : Nat} (ha : DT K ta ss mem (.own p) m1) (hb : DT K tb ss m1 (.dat (.lst es)) m2) (hm : m2[p]? = some (.lst ds)) (hd : D.flat n (.lst ds) = true) (he : D.flat n (.lst es) = true) (hn : n ≤ 64 := by decide) :
    DT K (tOp (rNeD K) ta tb) ss mem (.dat (.bl (!PyData.eqv (D.lst ds).py (D.lst es).py))) m2 :=
  dt_op ha hb fun B H al σ v w Q S hv hw k => by
    obtain ⟨a, a1, rfl⟩ := hv
    obtain ⟨_, xs, a2, a3⟩ := S.mem p a _ a1 hm
    refine ⟨_, _, ?_, Rep.dp S.sub n _ hw he, flat_shaped hd hn, flat_shaped he hn, k _ _ _ _ (Stp.refl _ _ _) S (.bl _)⟩
    match n, hd with
    | n + 1, hd =>
      rw [D.py]
      exact .lst (SqL.of a2) (RepAll.dp S.sub n ds a3 (by simpa [D.flat] using hd))
theorem eqv_nil : PyData.eqv (D.lst ds).py (D.lst []).py = ds.isEmpty := by
  cases ds <;> simp [D.py, D.pyAll, PyData.eqv, PyData.eqvAll]
theorem flat_ints : ∀ (n : Nat) (ns : List Int), D.flatAll n (ns.map D.int) = true
  | _, [] => by simp [D.flatAll]
  | n, x :: ns => by
    rw [List.map_cons, D.flatAll, flat_ints n ns]
    cases n <;> simp [D.flat]
theorem flat_lints (n : Nat) (ns : List Int) : D.flat (n + 1) (.lst (ns.map D.int)) = true := by
  rw [D.flat]
  exact flat_ints n ns
/-- xs.pop(0), xs own -/
theorem dt_pop0 {p : Nat} (ho : DT K to ss mem (.own p) m1) (hm : m1[p]? = some (.lst (d :: ds))) :
    DT K (tBM K "list" rPopAt to (tCons (tC (.int 0)) tNil)) ss mem (.dat d) (m1.set p (.lst ds)) := fun B H al σ Q S k =>
  ho B H al σ _ S fun B1 H1 al1 v P1 S1 r1 => by
    obtain ⟨a, a1, rfl⟩ := r1
    obtain ⟨b0, xs, a2, a3⟩ := S1.mem p a _ a1 hm
    cases a3 with
    | @cons v vs _ _ h1 h2 =>
      refine ⟨.inl ⟨rfl, _, SqL.of a2⟩, ⟨a, _, 0, 0, v, rfl, rfl, a2, by decide, by decide, ?_, rfl, ?_⟩⟩
      · unfold seqIndex?
        simp
      · obtain ⟨P3, S3⟩ := S1.write (o := .lst vs) (m := .lst ds) a1 b0 ⟨b0, _, upd_same, h2⟩
        exact k _ _ _ _ (P1.trans P3) S3 h1
/-- xs.pop(), xs own -/
theorem dt_popE {p : Nat} (ho : DT K to ss mem (.own p) m1) (hm : m1[p]? = some (.lst (ds ++ [d]))) :
    DT K (tBM0 K "list" rPop to) ss mem (.dat d) (m1.set p (.lst ds)) := fun B H al σ Q S k =>
  ho B H al σ _ S fun B1 H1 al1 v P1 S1 r1 => by
    obtain ⟨a, a1, rfl⟩ := r1
    obtain ⟨b0, xs, a2, a3⟩ := S1.mem p a _ a1 hm
    have len := a3.len
    rw [List.length_append, List.length_singleton] at len
    obtain ⟨v, g1, g2⟩ := a3.get (i := ds.length) (d := d) (by simp)
    have t := a3.take ds.length
    rw [List.take_left] at t
    refine ⟨.inl ⟨rfl, _, SqL.of a2⟩, ⟨a, xs, v, rfl, rfl, a2, by rw [len]; exact g1, ?_⟩⟩
    obtain ⟨P3, S3⟩ := S1.write (o := .lst xs.dropLast) (m := .lst ds) a1 b0 ⟨b0, _, upd_same, by rw [List.dropLast_eq_take, len]; exact t⟩
    exact k _ _ _ _ (P1.trans P3) S3 (Rep.mono P3.same d g2)
/-- while: so many turns, then the test is false -/
theorem ds_while {c : TT} {tb : TS} (n : Nat) (f : Nat → Sl) (m : Nat → List Mc) (f0 : f 0 = ss) (m0 : m 0 = mem)
    (test : ∀ i, i < n → DB K c (f i) (m i) true (m i)) (step : ∀ i, i < n → DS K tb (f i) (m i) (.nx (f (i + 1)) (m (i + 1)))) (stop : DB K c (f n) (m n) false (m n)) :
    DS K (tWhile c tb) ss mem (.nx (f n) (m n)) := fun B H al σ Dn S k => by
  refine ⟨fun q σ' H' => ∃ i, i ≤ n ∧ q = n - i ∧ ∃ B' al', Stp B H al B' H' al' ∧ Sit K B' H' al' σ' (f i) (m i), ⟨n, 0, Nat.zero_le _, rfl, B, al, Stp.refl _ _ _, by rw [f0, m0]; exact S⟩, ?_⟩
  rintro q σ1 H1 ⟨i, hi, rfl, B1, al1, P1, S1⟩
  rcases Nat.lt_or_ge i n with lt | ge
  · refine test i lt B1 H1 al1 σ1 _ S1 fun B2 H2 al2 P2 S2 => ?_
    rw [if_pos rfl]
    refine ⟨fun σ' H' => ∃ B' al', Stp B H al B' H' al' ∧ Sit K B' H' al' σ' (f (i + 1)) (m (i + 1)), fun σ' H' w => ⟨n - (i + 1), by omega, i + 1, lt, rfl, w⟩, ?_⟩
    exact step i lt B2 H2 al2 σ1 _ S2 fun B3 H3 al3 P3 σ3 S3 => ⟨B3, al3, (P1.trans P2).trans P3, S3⟩
  · have e : i = n := by omega
    subst e
    refine stop B1 H1 al1 σ1 _ S1 fun B2 H2 al2 P2 S2 => ?_
    rw [if_neg Bool.false_ne_true]
    exact k _ _ _ (P1.trans P2) σ1 S2
end
end DL
end
section
set_option Elab.async false
set_option linter.all false
set_option maxRecDepth 100000
/-! defs that give a new list which the caller may change -/
namespace DL
open PySem PySem.Spec PyProof.Rows L2
/-- what a def of data gives: a new object, its own caller's from then on -/
def spN (K : PySem.W.Frag) (n : Nat) (R : List D → Mc → Prop) : Sp := fun vs H Q _ => ∃ B ds m, R ds m ∧ ds.length = n ∧ Sit K B H [] (vs.map some) ((ds.map Vl.dat).map some) [] ∧
  ∀ B' H' a, Stp B H [] B' H' [a] → Sit K B' H' [a] (vs.map some) ((ds.map Vl.dat).map some) [m] → Q (.ref a) H'
section
variable {K : PySem.W.Frag} {ss : Sl} {mem m1 : List Mc} {ds es : List D} {d : D}
theorem dt_callN {n : Nat} {R : List D → Mc → Prop} {m : Mc} {E : XK} {t : TA} (h : DA K t ss mem ds m1) (hR : R ds m) (hn : ds.length = n := by rfl) : DT K (tCall (spN K n R) [] E t) ss mem (.own m1.length) (m1 ++ [m]) := fun B H al σ Q S k =>
  h B H al σ _ S fun B1 H1 al1 vs P1 S1 r1 => by
    refine ⟨B1, ds, m, hR, hn, ?_, fun B' H' a P S' => ?_⟩
    · rw [List.append_nil]
      exact pack_slots S1.sub r1
    · have P0 : Stp B1 H1 [] B' H' [] := P.drop 0 (Nat.le_refl _)
      obtain ⟨P2, S2⟩ := S1.after P0 S'.sub
      have fresh : H1 a = none := by
        obtain ⟨ex, q, hx⟩ := P.ext
        exact hx a (by rw [List.nil_append] at q; rw [← q]; exact List.mem_cons_self)
      have nal : a ∉ al1 := fun z => S1.there a z fresh
      have at_ : H' a ≠ none := S'.there a List.mem_cons_self
      have P3 : Stp B1 H1 al1 B' H' (al1 ++ [a]) := ⟨P2.same, P2.frame, P2.fresh, P2.stay, [a], rfl, fun c hc => List.mem_singleton.mp hc ▸ fresh⟩
      have at1 : (al1 ++ [a])[m1.length]? = some a := by
        rw [← S1.mlen, List.getElem?_append_right (Nat.le_refl _), Nat.sub_self]
        rfl
      have slots : ∀ (i : Nat) (r : Vl), ss[i]? = some (some r) → ∃ v : V, σ[i]? = some (some v) ∧ VlOk K B' (al1 ++ [a]) v r := fun i r e => by
        obtain ⟨v, h1, h2⟩ := S1.slot i r e
        exact ⟨v, h1, h2.step P3⟩
      refine k B' H' (al1 ++ [a]) (.ref a) (P1.trans P3) ⟨S2.sub, S2.len, slots, ?_, fun l c q e1 e2 => ?_, ?_, fun c hc => ?_⟩ ⟨a, at1, rfl⟩
      · rw [List.length_append, List.length_append, S1.mlen]
        rfl
      · rcases Nat.lt_or_ge l al1.length with lt | ge
        · rw [List.getElem?_append_left lt] at e1
          rw [List.getElem?_append_left (S1.mlen ▸ lt)] at e2
          exact S2.mem l c q e1 e2
        · have up := (List.getElem?_eq_some_iff.mp e1).1
          rw [List.length_append, List.length_singleton] at up
          have el : l = al1.length := by omega
          subst el
          rw [List.getElem?_append_right (Nat.le_refl _), Nat.sub_self] at e1
          rw [List.getElem?_append_right (by rw [S1.mlen]; exact Nat.le_refl _), S1.mlen, Nat.sub_self] at e2
          exact Option.some.inj e1 ▸ Option.some.inj e2 ▸ S'.mem 0 a m rfl rfl
      · rw [List.nodup_append]
        refine ⟨S1.nd, List.pairwise_singleton _ _, fun c hc b hb e => ?_⟩
        rw [List.mem_singleton] at hb
        exact nal (hb ▸ e ▸ hc)
      · rcases List.mem_append.mp hc with hc | hc
        · exact S2.there c hc
        · exact List.mem_singleton.mp hc ▸ at_
end
section
variable {P : Program} {w : World} {K : PySem.W.Frag} {mg : Str → Option Value} {base : Heap}
theorem fnN {x qual : Str} {st : Stmt} {f : Addr} {fd : FuncData} {N ps : List Str} {k n : Nat} {R : List D → Mc → Prop} (F : Fun K x qual st f fd) (S : FnScope N ps (defScope st)) (hp : ps.length = n)
    (hbody : ∀ (cdv : Value) (A : Around) (outer : List Env) (s : Shared) (H : Hp) (E : XK), Room k (A.deeper (envOfC qual (defScope st) s.heap.objs.size f cdv)) →
      ∃ t, PSs (cxOf CX0 P w K mg base N qual (defScope st) f cdv A outer s H E).nox (defBody st) t ∧
        ∀ ds m, R ds m → ds.length = n → ∃ (j : Nat) (mm : List Mc), DS K t ((ds.map fun d => some (.dat d)) ++ List.replicate (N.length - n) none) [] (.rt (.own j) mm) ∧ mm[j]? = some m) :
    FnOk P w K mg base CX0 (k + 1) f fd ps (spN K n R) := by
  refine F.ok S (fun vs H Q E h => ?_) (fun cdv A outer s H vs Q E hr h => ?_)
  · obtain ⟨B, ds, m, _, hn, S0, _⟩ := h
    have := S0.len
    rw [List.length_map, List.length_map, List.length_map] at this
    omega
  · obtain ⟨B, ds, m, hR, hn, S0, k0⟩ := h
    obtain ⟨t, ht, hd⟩ := hbody cdv A outer s H E hr
    refine ⟨t, ht, ?_⟩
    obtain ⟨j, mm, h, hj⟩ := hd ds m hR hn
    have st := start_sit (N := N) (n := n) S0 (by rw [List.length_map]; exact hn)
    rw [List.map_map] at st
    refine h B H [] (L2.start N vs) _ st fun B' H' al' P' σ' ss' v S' rv => ?_
    obtain ⟨a, a1, rfl⟩ := rv
    obtain ⟨ex, q, hx⟩ := P'.ext
    rw [List.nil_append] at q
    have ina := List.mem_of_getElem? a1
    have P2 : Stp B H [] B' H' [a] := ⟨P'.same, P'.frame, P'.fresh, P'.stay, [a], rfl, fun c hc => List.mem_singleton.mp hc ▸ hx a (q ▸ ina)⟩
    refine k0 B' H' a P2 ⟨S'.sub, S0.len, fun i r e => ?_, rfl, fun l c z e1 e2 => ?_, List.pairwise_singleton _ _, fun c hc => ?_⟩
    · obtain ⟨v, h1, h2⟩ := S0.slot i r e
      exact ⟨v, h1, h2.step P2⟩
    · match l, e1, e2 with
      | 0, e1, e2 => exact Option.some.inj e1 ▸ Option.some.inj e2 ▸ S'.mem j a m a1 hj
    · exact List.mem_singleton.mp hc ▸ S'.there a ina
end
end DL
end
section
set_option Elab.async false
set_option linter.all false
set_option maxRecDepth 100000
/-! own + a list as it lies; names let go -/
namespace DL
open PySem PySem.Spec PyProof.Rows L2
section
variable {K : PySem.W.Frag} {ss s1 s2 : Sl} {mem m1 m2 : List Mc} {te ta tb : TE} {ds es : List D} {t : TS}
theorem dt_catOT {n : Nat} (ha : DT K ta ss mem (.own n) m1) (hb : DT K tb ss m1 (.tl es) m2) (hm : m2[n]? = some (.lst ds)) (hl : ds.length + es.length ≤ 16777216) :
    DT K (tOp rCat ta tb) ss mem (.own m2.length) (m2 ++ [.lst (ds ++ es)]) :=
  dt_op ha hb fun B H al σ v w Q S hv hw k => by
    obtain ⟨a, a1, rfl⟩ := hv
    obtain ⟨b, ys, rfl, y1, y2⟩ := hw
    obtain ⟨_, xs, x1, x2⟩ := S.mem n a _ a1 hm
    refine ⟨a, b, xs, ys, rfl, rfl, x1, S.sub _ _ y1, by rw [x2.len, y2.len, sizeLine_eq]; exact hl, fun p np => ?_⟩
    obtain ⟨P3, S3⟩ := S.layOwn (o := .lst (xs ++ ys)) (m := .lst (ds ++ es)) np ⟨S.sub.free np, _, upd_same, x2.append y2⟩
    exact k _ _ _ _ P3 S3 ⟨p, by rw [← S.mlen, List.getElem?_append_right (Nat.le_refl _), Nat.sub_self]; rfl, rfl⟩
/-- tuple + tuple -/
theorem dt_catTup (ha : DT K ta ss mem (.dat (.tup ds)) m1) (hb : DT K tb ss m1 (.dat (.tup es)) m2) (hl : ds.length + es.length ≤ 16777216) : DT K (tOp (rCatA K) ta tb) ss mem (.dat (.tup (ds ++ es))) m2 :=
  dt_op ha hb fun B H al σ v w Q S hv hw k => by
    cases hv with
    | @tup a xs _ a2 a3 =>
      cases hw with
      | @tup b ys _ b2 b3 =>
        refine ⟨a, b, xs, ys, rfl, rfl, SqT.of (S.sub _ _ a2), SqT.of (S.sub _ _ b2), by rw [a3.len, b3.len, sizeLine_eq]; exact hl, fun z => ?_, fun _ z => ?_, fun _ _ p np => ?_⟩
        · subst z
          cases a3
          exact k _ _ _ _ (Stp.refl _ _ _) S (.tup b2 b3)
        · subst z
          cases b3
          rw [List.append_nil] at k
          exact k _ _ _ _ (Stp.refl _ _ _) S (.tup a2 a3)
        · obtain ⟨P3, S3⟩ := S.lay (o := .tup (xs ++ ys)) np
          exact k _ _ _ _ P3 S3 (.tup upd_same (RepAll.mono P3.same _ (a3.append b3)))
/-- while, by an invariant and a measure -/
theorem ds_whileM {α : Type} {c : TT} {tb : TS} (g : α → Sl) (m : α → List Mc) (I : α → Prop) (μ : α → Nat) (stop : α → Prop) (a0 : α) (i0 : I a0) (f0 : g a0 = ss) (m0 : m a0 = mem)
    (turn : ∀ a, I a → (stop a ∧ DB K c (g a) (m a) false (m a)) ∨ ∃ a', I a' ∧ μ a' < μ a ∧ DB K c (g a) (m a) true (m a) ∧ DS K tb (g a) (m a) (.nx (g a') (m a'))) :
    ∃ a, I a ∧ stop a ∧ DS K (tWhile c tb) ss mem (.nx (g a) (m a)) := by
  have chain : ∀ k a, μ a ≤ k → I a → ∃ (n : Nat) (q : Nat → α), q 0 = a ∧ (∀ i, i < n → DB K c (g (q i)) (m (q i)) true (m (q i)) ∧ DS K tb (g (q i)) (m (q i)) (.nx (g (q (i + 1))) (m (q (i + 1))))) ∧ I (q n) ∧ stop (q n) ∧ DB K c (g (q n)) (m (q n)) false (m (q n)) := fun k => by
    induction k with
    | zero =>
      intro a h ia
      rcases turn a ia with ⟨h1, h2⟩ | ⟨a', -, lt, -⟩
      · exact ⟨0, fun _ => a, rfl, fun i hi => absurd hi (Nat.not_lt_zero _), ia, h1, h2⟩
      · omega
    | succ k ih =>
      intro a h ia
      rcases turn a ia with ⟨h1, h2⟩ | ⟨a', ia', lt, h1, h2⟩
      · exact ⟨0, fun _ => a, rfl, fun i hi => absurd hi (Nat.not_lt_zero _), ia, h1, h2⟩
      · obtain ⟨n, q, q0, qs, qe⟩ := ih a' (by omega) ia'
        refine ⟨n + 1, fun | 0 => a | i + 1 => q i, rfl, fun i hi => ?_, qe⟩
        match i with
        | 0 => exact ⟨h1, by show DS K tb (g a) (m a) (.nx (g (q 0)) (m (q 0))); rw [q0]; exact h2⟩
        | i + 1 => exact qs i (by omega)
  obtain ⟨n, q, q0, qs, qi, q1, q2⟩ := chain (μ a0) a0 (Nat.le_refl _) i0
  exact ⟨q n, qi, q1, ds_while n (fun i => g (q i)) (fun i => m (q i)) (by rw [q0]; exact f0) (by rw [q0]; exact m0) (fun i hi => (qs i hi).1) (fun i hi => (qs i hi).2) q2⟩
theorem ends_seq {t u : TS} {d : D} {m' : List Mc} (h : DS K t ss mem (.nx s1 m1)) (g : Ends1 K u s1 m1 d m') : Ends1 K (tSeq t u) ss mem d m' := by
  obtain ⟨more, g | ⟨e, s, g⟩⟩ := g
  · exact ⟨more, .inl (ds_seq h g)⟩
  · exact ⟨more, .inr ⟨e, s, ds_seq h g⟩⟩
/-- .. and what follows it -/
theorem ends_whileM {α : Type} {c : TT} {tb u : TS} {d : D} {m' : List Mc} (g : α → Sl) (m : α → List Mc) (I : α → Prop) (μ : α → Nat) (stop : α → Prop) (a0 : α) (i0 : I a0) (f0 : g a0 = ss) (m0 : m a0 = mem)
    (turn : ∀ a, I a → (stop a ∧ DB K c (g a) (m a) false (m a)) ∨ ∃ a', I a' ∧ μ a' < μ a ∧ DB K c (g a) (m a) true (m a) ∧ DS K tb (g a) (m a) (.nx (g a') (m a')))
    (rest : ∀ a, I a → stop a → Ends1 K u (g a) (m a) d m') : Ends1 K (tSeq (tWhile c tb) u) ss mem d m' := by
  obtain ⟨a, ia, sa, h⟩ := ds_whileM g m I μ stop a0 i0 f0 m0 turn
  exact ends_seq h (rest a ia sa)
end
end DL
end
section
set_option Elab.async false
set_option linter.all false
set_option maxRecDepth 100000
/-! *xs, y = a list; every second item of a list; <= of tuples of ints -/
namespace DL
open PySem PySem.Spec PyProof.Rows L2
/-- *xs, y = a list of one item or more -/
def gStarL (K : PySem.W.Frag) (g1 g2 : TG) : TG := fun v σ H Q => ∃ a zs y, v = .ref a ∧ SqL K H a (zs ++ [y]) ∧ zs.length ≤ 16000 ∧ ∀ p, H p = none → g1 (.ref p) σ (upd H p (.lst zs)) fun σ1 H1 => g2 y σ1 H1 Q
theorem pgStarL {X : Cx} (K : PySem.W.Frag) {t1 : Expr} {y : Str} {k : Nat} {py p1 pos : Pos} {g1 g2 : TG} (h1 : PG X t1 g1) (h2 : PG X (.Name y py) g2) (hc : X.calm = true := by rfl) (hK : X.K = K := by rfl) :
    PG X (.Tuple [.Starred t1 p1, .Name y py] k pos) (gStarL K g1 g2) := by
  subst hK
  refine ⟨fun pins s σ H v u Q I r hw => ?_⟩
  obtain ⟨a, zs, w, rfl, hq, few, hw⟩ := hw
  cases r
  obtain ⟨its, rv, pl, -⟩ := I.list hq
  have ln := rv.length
  rw [List.length_append, List.length_singleton] at ln
  have isl := pl.isList
  have ha : a < s.heap.objs.size := isl.elim fun o z => Heap.lt_size z.1
  have hne : a ≠ s.heap.objs.size := Nat.ne_of_lt ha
  have front : Vals zs (its.take zs.length) := by
    have z := rv.take zs.length
    rwa [List.take_left] at z
  obtain ⟨wl, el, rl⟩ := rv.get (i := zs.length) (x := w) (by simp)
  have parts : its.drop zs.length = [wl] := by
    refine List.ext_getElem? fun i => ?_
    rw [List.getElem?_drop]
    match i with
    | 0 => exact el
    | i + 1 => rw [List.getElem?_eq_none (by omega)]; rfl
  rw [PyProof.Rows.assign_Tuple]
  refine wpAny_bind (wpAny_standAt ?_)
  show wpAny _ _ (unpack (.ref a) [(true, assign t1 X.env), (false, assign (.Name y py) X.env)]) _ _ s
  unfold unpack
  refine wpAny_bind (wpAny_holding ?_)
  show wpAny _ _ (unpackItems (.ref a) 2 (some 0)) _ _ s
  unfold unpackItems notIterableAtAll
  refine wpAny_bind (wpAny_bind (wpAny_specialOf isl.typeIs slot_list_iter.lookup (wpAny_pure ?_)))
  rw [if_neg Bool.false_ne_true]
  refine wpAny_bind (wpAny_holding (wpAny_pyIter_list isl ?_))
  refine wpAny_bind (wpAny_holding (wpAny_pure ?_))
  rw [if_neg (Nat.not_lt_zero _)]
  have sz : (s.heap.push { cls := .type "list_iterator", data := .fields #[.ref a, .int 0 0] }).objs.size = s.heap.objs.size + 1 := Heap.size_push ..
  refine wpAny_bind (wpAny_holding (PySem.W.kun_collect (T := "list_iterator") (.inr (.inr (.inl rfl))) (Walks.list (A := X.A.in1) (I.ok.hd hc) s.heap.objs.size a hne its.toArray) (fun j u st => st.1.typeIs) (k := 0) (Nat.zero_le _)
    ⟨⟨_, Heap.get?_push_size _ rfl, rfl, rfl⟩, isl.push _⟩ (show s.heap.objs.size < (s.heap.push _).objs.size from sz ▸ Nat.lt_succ_self _) (show a < (s.heap.push _).objs.size from sz ▸ Nat.lt_succ_of_lt ha) (fun h2' tk kept => ?_) (by rw [List.size_toArray, sizeLine_eq]; omega)))
  have grown : ∀ b o, s.heap.get? b = some o → h2'.get? b = some o := fun b o e => kept b o (Nat.ne_of_lt (Heap.lt_size e)) (Heap.get?_push_of_some _ e)
  have J : Inv X pins σ H { s with heap := h2', toks := tk } := I.kept (t' := tk) grown
  have eL : (its.toArray.toList.drop 0) = its := by simp
  rw [eL]
  show wpAny _ _ (if its.length < 1 then _ else _) _ _ _
  rw [if_neg (by omega)]
  show wpAny _ _ (newList (its.take (its.length - 1)) >>= fun d => pure ([] ++ [d] ++ its.drop (its.length - 1))) _ _ _
  have e1 : its.length - 1 = zs.length := by omega
  rw [e1, parts]
  refine wpAny_bind (wpAny_newObj_type ?_ (by show (List.take zs.length its).toArray.size ≤ sizeLine; rw [List.size_toArray, List.length_take, sizeLine_eq]; omega))
  refine wpAny_pure ?_
  have np : H h2'.objs.size = none := J.hok.fresh (Nat.le_refl _)
  have laid := J.laid (t' := tk) (o := .lst zs) (h' := h2'.push { cls := .type "list", data := .seq (its.take zs.length).toArray }) (fun b o e => Heap.get?_push_of_some _ e) (Nat.le_refl _) ⟨by rw [sizeLine_eq]; omega, _, 0, front, Heap.get?_push_size _ rfl⟩
  show wpAny _ _ (assignInOrder [assign t1 X.env, assign (.Name y py) X.env] [.ref h2'.objs.size, wl]) _ _ _
  refine assignInOrder_cons (thn (h1.run pins _ σ _ (.ref h2'.objs.size) _ _ laid rfl (hw _ np)) fun _ s3 ⟨σ3, H3, I3, q3⟩ => ?_)
  exact assignInOrder_cons (thn (h2.run pins s3 σ3 H3 w wl Q I3 rl q3) fun _ s4 z => assignInOrder_nil z)
/-- every second item, from the first on -/
def evl {α : Type} : List α → List α
  | [] => []
  | [x] => [x]
  | x :: _ :: l => x :: evl l
theorem evl_pick {α : Type} : ∀ m : List α, (List.range ((m.length + 1) / 2)).filterMap (fun k => m[2 * k]?) = evl m
  | [] => by simp [evl]
  | [x] => by simp [evl]
  | x :: y :: m => by
    have e : ((x :: y :: m).length + 1) / 2 = (m.length + 1) / 2 + 1 := by
      simp only [List.length_cons]
      omega
    rw [e, List.range_succ_eq_map, List.filterMap_cons]
    have h0 : (x :: y :: m)[2 * 0]? = some x := rfl
    rw [h0]
    show x :: _ = x :: evl m
    rw [← evl_pick m, List.filterMap_map]
    refine congrArg (x :: ·) (congrArg (fun f => List.filterMap f _) (funext fun k => ?_))
    show (x :: y :: m)[2 * (k + 1)]? = m[2 * k]?
    rw [show 2 * (k + 1) = 2 * k + 1 + 1 by omega, List.getElem?_cons_succ, List.getElem?_cons_succ]
theorem evl_map {α β : Type} (f : α → β) : ∀ l : List α, evl (l.map f) = (evl l).map f
  | [] => rfl
  | [x] => rfl
  | x :: y :: l => congrArg (f x :: ·) (evl_map f l)
theorem evl_len {α : Type} : ∀ l : List α, (evl l).length ≤ l.length
  | [] => Nat.le_refl _
  | [x] => Nat.le_refl _
  | x :: y :: l => by
    have := evl_len l
    show (evl l).length + 1 ≤ l.length + 1 + 1
    omega
theorem pick2 (its : Array Value) (n : Nat) (lo : Option Int) (h : (lo = none ∧ n = 0) ∨ (lo = some 1 ∧ n = 1)) : slicePick its lo none (some 2) = (evl (its.toList.drop n)).toArray := by
  have key : ∀ st : Int, st = (n : Int) ∨ (its.size ≤ n ∧ st = its.size) → ((sliceRange st its.size 2).filterMap (its[·]?)) = evl (its.toList.drop n) := fun st hst => by
    rw [← evl_pick]
    have cnt : (its.toList.drop n).length = its.size - n := by rw [List.length_drop, Array.length_toList]
    unfold sliceRange
    rw [if_pos (show (2 : Int) > 0 by decide), cnt]
    by_cases lt : st < its.size
    · have e : st = n := by rcases hst with e | ⟨e1, e2⟩ <;> omega
      subst e
      rw [if_pos lt]
      have ec : (((its.size : Int) - (n : Int) + 2 - 1) / 2).toNat = (its.size - n + 1) / 2 := by omega
      show List.filterMap (fun x => its[x]?) (List.map (fun k : Nat => ((n : Int) + 2 * (k : Int)).toNat) (List.range (((its.size : Int) - (n : Int) + 2 - 1) / 2).toNat)) = _
      rw [ec, List.filterMap_map]
      refine congrArg (fun f => List.filterMap f _) (funext fun k => ?_)
      show its[((n : Int) + 2 * (k : Int)).toNat]? = (its.toList.drop n)[2 * k]?
      rw [List.getElem?_drop, Array.getElem?_toList, show ((n : Int) + 2 * (k : Int)).toNat = n + 2 * k by omega]
    · rw [if_neg lt]
      have z : its.size - n = 0 := by rcases hst with e | ⟨e1, e2⟩ <;> omega
      rw [z]
      rfl
  unfold slicePick
  rcases h with ⟨rfl, rfl⟩ | ⟨rfl, rfl⟩
  · exact congrArg List.toArray (key 0 (.inl rfl))
  · refine congrArg List.toArray (key (max 0 (min 1 (its.size : Int))) ?_)
    omega
def tEv (K : PySem.W.Frag) (n : Nat) (te : TE) : TE := fun σ H Q => te σ H fun x H1 => ∃ a xs, x = .ref a ∧ SqL K H1 a xs ∧ ∀ p, H1 p = none → Q (.ref p) (upd H1 p (.lst (evl (xs.drop n))))
section
variable {X : Cx} {K : PySem.W.Frag}
theorem ev_core {e : Expr} {te : TE} {lo : Option Expr} {tl : TO} {k2 : Nat} {p2 p3 pos : Pos} {n : Nat} {l0 : Option Int} (hK : X.K = K) (he : PE X e te) (hl0 : (l0 = none ∧ n = 0) ∨ (l0 = some 1 ∧ n = 1)) (hlo : PO X lo tl) (htl : ∀ σ H, tl σ H fun o H1 => o = l0 ∧ H1 = H)
    (tail : ∀ a b, subscripted (.Slice lo none (some (.Constant (.int 2) k2 p2)) p3) false (.ref a) (.ref b) = operate [.ref a, .ref b] (getItem (.ref a) (.ref b))) : PE X (.Subscript e (.Slice lo none (some (.Constant (.int 2) k2 p2)) p3) pos) (tEv K n te) := by
  subst hK
  refine ⟨fun pins s σ H Q I wish => ?_⟩
  refine Subscript_ (thn (he.run pins s σ H _ I wish) fun v s1 h1 => ?_)
  obtain ⟨x, H1, I1, r1, a, xs, rfl, hx, q⟩ := h1
  cases r1
  refine wpAny_Slice (thn (hlo.run pins s1 σ H1 _ I1 (htl σ H1)) fun vl s2 h2 => ?_)
  obtain ⟨l, H2, I2, pl, rfl, rfl⟩ := h2
  refine thn (po_none.run pins s2 σ H2 (fun o H3 => o = none ∧ H3 = H2) I2 ⟨rfl, rfl⟩) fun vu s3 h3 => ?_
  obtain ⟨u, H3, I3, pu, rfl, rfl⟩ := h3
  have hst : PO X (some (.Constant (.int 2) k2 p2)) (tPart (tC (.int 2))) := po_some pe_int
  refine thn (hst.run pins s3 σ H3 (fun o H4 => o = some 2 ∧ H4 = H3) I3 ⟨2, rfl, rfl, rfl⟩) fun vs s4 h4 => ?_
  obtain ⟨o, H4, I4, pst, rfl, rfl⟩ := h4
  have J : Inv X pins σ H4 { s4 with heap := s4.heap.push { cls := .type "slice", data := .fields #[vl, vu, vs] } } := I4.kept (t' := s4.toks) fun b ob e => Heap.get?_push_of_some _ e
  obtain ⟨its, rv, pl2, hz⟩ := J.list hx
  have lz := rv.length
  refine PyProof.Rows.tail_any (ops := [.ref a, .ref s4.heap.objs.size]) pl2.isList.typeIs PySem.slot_list_getitem.lookup ?_ (tail _ _)
  refine wpAny_getItem_list_slice pl2.isList (Heap.IsSliceOf.new _ vl vu vs) pl pu pst (by decide) ?_ (by rw [List.size_toArray]; omega)
  rw [pick2 _ n l hl0]
  have small := evl_len (xs.drop n)
  rw [List.length_drop] at small
  refine ⟨.ref _, _, J.laid (t' := s4.toks) (o := .lst (evl (xs.drop n))) (fun b ob e => Heap.get?_push_of_some _ e) (Nat.le_refl _) ⟨by omega, _, 0, ?_, Heap.get?_push_size _ rfl⟩, rfl, q _ (J.hok.fresh (Nat.le_refl _))⟩
  have ev : ∀ {ys : List V} {us : List Value}, Vals ys us → Vals (evl ys) (evl us) := fun {ys} => by
    induction ys using evl.induct with
    | case1 => intro us r; cases r; exact .nil
    | case2 x => intro us r; cases r with | cons r rr => cases rr; exact .cons r .nil
    | case3 x y l ih => intro us r; cases r with | cons r rr => cases rr with | cons r2 rr => exact .cons r (ih rr)
  exact ev (rv.drop n)
theorem pe_even {e : Expr} {te : TE} {k2 : Nat} {p2 p3 pos : Pos} (K : PySem.W.Frag) (he : PE X e te) (hK : X.K = K := by rfl) : PE X (.Subscript e (.Slice none none (some (.Constant (.int 2) k2 p2)) p3) pos) (tEv K 0 te) :=
  ev_core hK he (.inl ⟨rfl, rfl⟩) po_none (fun _ _ => ⟨rfl, rfl⟩) fun a b => by with_unfolding_all rfl
theorem pe_odd {e : Expr} {te : TE} {k1 k2 : Nat} {p1 p2 p3 pos : Pos} (K : PySem.W.Frag) (he : PE X e te) (hK : X.K = K := by rfl) : PE X (.Subscript e (.Slice (some (.Constant (.int 1) k1 p1)) none (some (.Constant (.int 2) k2 p2)) p3) pos) (tEv K 1 te) :=
  ev_core hK he (.inr ⟨rfl, rfl⟩) (po_some pe_int) (fun _ _ => ⟨1, rfl, rfl, rfl⟩) fun a b => by with_unfolding_all rfl
end
end DL
end
section
set_option Elab.async false
set_option linter.all false
set_option maxRecDepth 100000
/-! texts; <= of tuples; tests by truth; tables of the module's top -/
namespace DL
open PySem PySem.Spec PyProof.Rows L2
/-! ### texts -/
def rAddS : R2 := fun x y H Q => ∃ i j, x = .str i ∧ y = .str j ∧ i.length + j.length ≤ sizeLine ∧ Q (.str (i ++ j)) H
theorem opAddS {X : Cx} : OpR X (binaryOp .Add) rAddS := op_add_str
def rStrI : List V → Hp → VK → Prop := fun xs H Q => ∃ i, xs = [.int i] ∧ i.natAbs.log2 < 1920 ∧ Q (.str (toString i)) H
theorem callStrI {X : Cx} : CallR X (.type "str") rStrI := call_str_int
def rSplit : V → List V → Hp → VK → Prop := fun x xs H Q => ∃ a b, x = .str a ∧ xs = [.str b] ∧ (b.length == 0) = false ∧ a.length + 2 ≤ sizeLine ∧ rNewStrs (Txt.split a b) H Q
def rJoin (K : PySem.W.Frag) : V → List V → Hp → VK → Prop := fun x xs H Q => ∃ a p, ∃ ys : List Str, x = .str a ∧ xs = [.ref p] ∧ (SqL K H p (ys.map V.str) ∨ SqT K H p (ys.map V.str)) ∧
  (ys.map (·.length)).sum + ys.length * a.length ≤ 16777216 ∧ Q (.str (Txt.join a ys)) H
section
variable {X : Cx} {o e : Expr} {to te : TE}
theorem peSplit {apos pos : Pos} (ho : PE X o to) (he : PE X e te) (hs : starEach [e] X.env = [(false, eval e X.env)] := by rfl) (hbase : attributeBase o "split" X.env (eval o X.env) = eval o X.env := by rfl) (hline : (apos.endLine == pos.line) = true := by rfl) :
    PE X (.Call (.Attribute o "split" apos) [e] [] pos) (tM1 rSplit to te) := pe_split ho he hs hbase hline
theorem peJoin {apos pos : Pos} (K : PySem.W.Frag) (ho : PE X o to) (he : PE X e te) (hK : X.K = K := by rfl) (hs : starEach [e] X.env = [(false, eval e X.env)] := by rfl) (hbase : attributeBase o "join" X.env (eval o X.env) = eval o X.env := by rfl) (hline : (apos.endLine == pos.line) = true := by rfl) :
    PE X (.Call (.Attribute o "join" apos) [e] [] pos) (tM1 (rJoin K) to te) := hK ▸ pe_join ho he hs hbase hline
end
section
variable {K : PySem.W.Frag} {ss : Sl} {mem m1 m2 : List Mc} {te ta tb to : TE} {x y : Str} {i : Int} {d : D} {ds : List D}
theorem dt_addS (ha : DT K ta ss mem (.dat (.str x)) m1) (hb : DT K tb ss m1 (.dat (.str y)) m2) (hl : x.length + y.length ≤ 16777216) : DT K (tOp rAddS ta tb) ss mem (.dat (.str (x ++ y))) m2 :=
  dt_op ha hb fun B H al σ v w Q S hv hw k => by
    cases hv
    cases hw
    exact ⟨x, y, rfl, rfl, by rw [sizeLine_eq]; exact hl, k _ _ _ _ (Stp.refl _ _ _) S (.str _)⟩
theorem dt_strI (h : DT K te ss mem (.dat (.int i)) m1) (hi : i.natAbs.log2 < 1920) : DT K (tCB rStrI (tCons te tNil)) ss mem (.dat (.str (toString i))) m1 := fun B H al σ Q S k =>
  h B H al σ _ S fun _ _ _ _ P1 S1 r1 => by
    cases r1
    exact ⟨i, rfl, hi, k _ _ _ _ P1 S1 (.str _)⟩
theorem reps_strs {B : Hp} : ∀ {ys : List Str} {vs : List V}, RepAll K B vs (ys.map D.str) → vs = ys.map V.str
  | [], _, h => by cases h; rfl
  | y :: ys, _, h => by
    cases h with
    | cons h1 h2 =>
      cases h1
      rw [reps_strs h2]
      rfl
theorem dt_split (ho : DT K to ss mem (.dat (.str x)) m1) (he : DT K te ss m1 (.dat (.str y)) m2) (hy : (y.length == 0) = false) (hx : x.length ≤ 16777000) : DT K (tM1 rSplit to te) ss mem (.dat (.lst ((Txt.split x y).map D.str))) m2 := fun B H al σ Q S k =>
  ho B H al σ _ S fun B1 H1 al1 v P1 S1 r1 => by
    cases r1
    refine ⟨⟨x, rfl⟩, he B1 H1 al1 σ _ S1 fun B2 H2 al2 w P2 S2 r2 => ?_⟩
    cases r2
    refine ⟨x, y, rfl, rfl, hy, by rw [sizeLine_eq]; omega, fun p np => ?_⟩
    obtain ⟨P3, S3⟩ := S2.lay (o := .lst ((Txt.split x y).map V.str)) np
    exact k _ _ _ _ ((P1.trans P2).trans P3) S3 (.lst (SqL.of upd_same) (reps_str _))
theorem dt_join {ys : List Str} (ho : DT K to ss mem (.dat (.str x)) m1) (he : DT K te ss m1 (.dat (.lst (ys.map D.str))) m2) (hl : (ys.map (·.length)).sum + ys.length * x.length ≤ 16777216) : DT K (tM1 (rJoin K) to te) ss mem (.dat (.str (Txt.join x ys))) m2 := fun B H al σ Q S k =>
  ho B H al σ _ S fun B1 H1 al1 v P1 S1 r1 => by
    cases r1
    refine ⟨⟨x, rfl⟩, he B1 H1 al1 σ _ S1 fun B2 H2 al2 w P2 S2 r2 => ?_⟩
    cases r2 with
    | lst s r =>
      cases reps_strs r
      exact ⟨x, _, ys, rfl, rfl, .inl (S2.seqL s), hl, k _ _ _ _ (P1.trans P2) S2 (.str _)⟩
theorem dt_joinO {ys : List Str} {n : Nat} (ho : DT K to ss mem (.dat (.str x)) m1) (he : DT K te ss m1 (.own n) m2) (hm : m2[n]? = some (.lst (ys.map D.str))) (hl : (ys.map (·.length)).sum + ys.length * x.length ≤ 16777216) : DT K (tM1 (rJoin K) to te) ss mem (.dat (.str (Txt.join x ys))) m2 := fun B H al σ Q S k =>
  ho B H al σ _ S fun B1 H1 al1 v P1 S1 r1 => by
    cases r1
    refine ⟨⟨x, rfl⟩, he B1 H1 al1 σ _ S1 fun B2 H2 al2 w P2 S2 r2 => ?_⟩
    obtain ⟨a, a1, rfl⟩ := r2
    obtain ⟨_, xs, x1, x2⟩ := S2.mem n a _ a1 hm
    cases reps_strs x2
    exact ⟨x, a, ys, rfl, rfl, .inl (SqL.of x1), hl, k _ _ _ _ (P1.trans P2) S2 (.str _)⟩
/-! f-strings -/
theorem dt_fmtS (h : DT K te ss mem (.dat (.str x)) m1) (hx : x.length ≤ 16777216) : DT K (tFmt te) ss mem (.dat (.str x)) m1 := fun B H al σ Q S k =>
  h B H al σ _ S fun _ _ _ _ P1 S1 r1 => by
    cases r1
    exact .inl ⟨x, rfl, by rw [sizeLine_eq]; exact hx, k _ _ _ _ P1 S1 (.str _)⟩
theorem dt_fmtI (h : DT K te ss mem (.dat (.int i)) m1) (hi : i.natAbs.log2 < 1920) : DT K (tFmt te) ss mem (.dat (.str (toString i))) m1 := fun B H al σ Q S k =>
  h B H al σ _ S fun _ _ _ _ P1 S1 r1 => by
    cases r1
    exact .inr ⟨i, rfl, hi, k _ _ _ _ P1 S1 (.str _)⟩
def tFs (ts : List TE) : TE := fun σ H Q => tJs ts Str.empty σ H fun out H1 => Q (.str out) H1
theorem peFs {X : Cx} {v1 v2 : Expr} {rest : List Expr} {ts : List TE} {pos : Pos} (h : PJ X (v1 :: v2 :: rest) ts) : PE X (.JoinedStr (v1 :: v2 :: rest) pos) (tFs ts) := pe_joined h
theorem dt_fs3 {m3 : List Mc} {z : Str} (ha : DT K ta ss mem (.dat (.str x)) m1) (hb : DT K tb ss m1 (.dat (.str y)) m2) (hc : DT K te ss m2 (.dat (.str z)) m3) (hl : (Str.empty ++ x ++ y ++ z).length ≤ 16777216) (hl2 : (Str.empty ++ x ++ y).length ≤ 16777216) (hl1 : (Str.empty ++ x).length ≤ 16777216) :
    DT K (tFs [ta, tb, te]) ss mem (.dat (.str (Str.empty ++ x ++ y ++ z))) m3 := fun B H al σ Q S k =>
  ha B H al σ _ S fun B1 H1 al1 v P1 S1 r1 => by
    cases r1
    refine ⟨x, rfl, by rw [sizeLine_eq]; exact hl1, hb B1 H1 al1 σ _ S1 fun B2 H2 al2 w P2 S2 r2 => ?_⟩
    cases r2
    refine ⟨y, rfl, by rw [sizeLine_eq]; exact hl2, hc B2 H2 al2 σ _ S2 fun B3 H3 al3 u P3 S3 r3 => ?_⟩
    cases r3
    exact ⟨z, rfl, by rw [sizeLine_eq]; exact hl, k _ _ _ _ ((P1.trans P2).trans P3) S3 (.str _)⟩
/-! every second item -/
theorem dt_ev {n : Nat} (h : DT K te ss mem (.dat (.lst ds)) m1) : DT K (tEv K n te) ss mem (.dat (.lst (evl (ds.drop n)))) m1 := fun B H al σ Q S k =>
  h B H al σ _ S fun B1 H1 al1 v P1 S1 r1 => by
    cases r1 with
    | @lst a xs _ s r =>
      refine ⟨a, xs, rfl, S1.seqL s, fun p np => ?_⟩
      obtain ⟨P3, S3⟩ := S1.lay (o := .lst (evl (xs.drop n))) np
      have ev : ∀ {es : List D} {ys : List V}, RepAll K B1 ys es → RepAll K B1 (evl ys) (evl es) := fun {es} => by
        induction es using evl.induct with
        | case1 => intro ys r; cases r; exact .nil
        | case2 x => intro ys r; cases r with | cons r rr => cases rr; exact .cons r .nil
        | case3 x y l ih => intro ys r; cases r with | cons r rr => cases rr with | cons r2 rr => exact .cons r (ih rr)
      exact k _ _ _ _ (P1.trans P3) S3 (.lst (SqL.of upd_same) (RepAll.mono P3.same _ (ev (RepAll.drop n r))))
/-! tests by truth -/
theorem db_truT (h : DT K te ss mem (.dat (.tup ds)) m1) : DB K (tTruL K te) ss mem (!ds.isEmpty) m1 := fun B H al σ Q S k =>
  h B H al σ _ S fun B1 H1 al1 v P1 S1 r1 => by
    cases r1 with
    | @tup a xs _ s r =>
      refine ⟨!ds.isEmpty, .inr (.inl ⟨xs, S1.seqT (SqT.of s), ?_⟩), k _ _ _ P1 S1⟩
      cases r <;> rfl
theorem db_truS (h : DT K te ss mem (.dat (.str x)) m1) (hx : x.length ≤ 16777216) : DB K (tTruL K te) ss mem ((x.length : Int) != 0) m1 := fun B H al σ Q S k =>
  h B H al σ _ S fun B1 H1 al1 v P1 S1 r1 => by
    cases r1
    exact ⟨_, ⟨by rw [sizeLine_eq]; exact hx, rfl⟩, k _ _ _ P1 S1⟩
/-! != of texts -/
theorem dt_neS (ha : DT K ta ss mem (.dat (.str x)) m1) (hb : DT K tb ss m1 (.dat (.str y)) m2) : DT K (tOp rNe ta tb) ss mem (.dat (.bl (!decide (x = y)))) m2 :=
  dt_op ha hb fun B H al σ v w Q S hv hw k => by
    cases hv
    cases hw
    refine ⟨rfl, k _ _ _ _ (Stp.refl _ _ _) S ?_⟩
    have e : decide (V.str x = V.str y) = decide (x = y) := by simp
    rw [e]
    exact .bl _
end
end DL
namespace DL
open PySem PySem.Spec PyProof.Rows L2
/-! ### <= of tuples of ints -/
def leI (ns ms : List Int) : Bool := SeqAt.firstLt (fun j => ns.getD j 0 == ms.getD j 0) (fun j => decide (ns.getD j 0 ≤ ms.getD j 0)) (decide (ns.length ≤ ms.length)) (List.range (min ns.length ms.length))
def rLeT (K : PySem.W.Frag) : R2 := fun x y H Q => ∃ a b ns ms, x = .ref a ∧ y = .ref b ∧ SqT K H a (ns.map V.int) ∧ SqT K H b (ms.map V.int) ∧ Q (.bl (leI ns ms)) H
theorem ints_at {ns : List Int} {its : List Value} (r : Vals (ns.map V.int) its) {j : Nat} (h : j < its.toArray.size) : ∃ t, its.toArray[j] = .int (ns.getD j 0) t := by
  have len := r.length
  rw [List.length_map] at len
  have hj : j < ns.length := by rw [len]; simpa using h
  obtain ⟨u, e, t, ht⟩ := r.get (i := j) (x := .int (ns.getD j 0)) (by rw [List.getElem?_map, List.getElem?_eq_getElem hj, List.getD_eq_getElem?_getD, List.getElem?_eq_getElem hj]; rfl)
  refine ⟨t, ?_⟩
  rw [← ht, ← Option.some.injEq, ← e]
  simp
theorem opLeT {X : Cx} (K : PySem.W.Frag) (hu : X.A.units < cLine) (hK : X.K = K := by rfl) : OpR X (compareOp .LtE) (rLeT K) := by
  subst hK
  intro pins s σ H x y v u Q I rx ry wish
  obtain ⟨a, b, ns, ms, rfl, rfl, ha, hb, q⟩ := wish
  cases rx
  cases ry
  obtain ⟨is, r1, p1, -⟩ := I.tuple ha
  obtain ⟨js, r2, p2, -⟩ := I.tuple hb
  have l1 := r1.length
  have l2 := r2.length
  rw [List.length_map] at l1 l2
  have key := SeqAt.RcOp.tuples_le (A := X.A) (e := fun j => ns.getD j 0 == ms.getD j 0) (r := fun j => decide (ns.getD j 0 ≤ ms.getD j 0)) p1 p2 hu
    (fun j h1 h2 => by
      obtain ⟨t, e1⟩ := ints_at r1 h1
      obtain ⟨t', e2⟩ := ints_at r2 h2
      rw [e1, e2]
      exact SeqAt.EqAt.int_int _ _ _ _)
    (fun j h1 h2 _ => by
      obtain ⟨t, e1⟩ := ints_at r1 h1
      obtain ⟨t', e2⟩ := ints_at r2 h2
      rw [e1, e2]
      exact fun prog w E Q q => le_int q)
  rw [List.size_toArray, List.size_toArray, ← l1, ← l2] at key
  exact key X.prog X.w _ _ ⟨.bl (leI ns ms), H, I, rfl, q⟩
section
variable {K : PySem.W.Frag} {ss : Sl} {mem m1 m2 : List Mc} {ta tb te tx : TE} {d e : D}
theorem dt_leT {ns ms : List Int} (ha : DT K ta ss mem (.dat (rowD ns)) m1) (hb : DT K tb ss m1 (.dat (rowD ms)) m2) : DT K (tOp (rLeT K) ta tb) ss mem (.dat (.bl (leI ns ms))) m2 :=
  dt_op ha hb fun B H al σ v w Q S hv hw k => by
    cases hv with
    | tup s1 r1 =>
      cases hw with
      | tup s2 r2 =>
        cases r1.ints
        cases r2.ints
        exact ⟨_, _, ns, ms, rfl, rfl, SqT.of (S.sub _ _ s1), SqT.of (S.sub _ _ s2), k _ _ _ _ (Stp.refl _ _ _) S (.bl _)⟩
/-! ### a table of the module's top: d.get(k, x) -/
def tKGet (K : PySem.W.Frag) (a : Addr) (ty tx : TE) : TE := fun σ H Q => ty σ H fun y H1 => ∃ z, y = .str z ∧ tx σ H1 fun v H2 => ∃ r, PySem.W.nsIn K a z = some r ∧ ((r = none ∧ Q v H2) ∨ ∃ u v0, r = some u ∧ RelV v0 u ∧ Q v0 H2)
theorem peKGet {X : Cx} {o e f : Expr} {apos cpos : Pos} {a : Addr} {es : Array DictEntry} {n : Nat} {ty tx : TE} (K : PySem.W.Frag) (w : World) (ho : PE X o (tC (.ref a))) (KD : KDict K w a es n) (he : PE X e ty) (hf : PE X f tx) (m : M2 X o "get" apos e f cpos) (hK : X.K = K := by rfl) (hw : X.w = w := by rfl) :
    PE X (.Call (.Attribute o "get" apos) [e, f] [] cpos) (tKGet K a ty tx) := by
  subst hK hw
  refine ⟨fun pins s σ H Q I wish => ?_⟩
  refine wpAny_Call_method m.base m.few m.line PySem.F.plainAttrs_dict PySem.F.slot_dict_get PySem.F.type_dict_get (thn (ho.run pins s σ H (fun v H1 => v = .ref a ∧ H1 = H) I ⟨rfl, rfl⟩) fun u s1 h1 => ?_)
  obtain ⟨x, H1, I1, rx, rfl, rfl⟩ := h1
  cases rx
  have mp := PySem.W.mapOf_K (prog := X.prog) (w := X.w) I1.kIn KD.at_ KD.lit
  refine ⟨mp.typeIs, (fun c z => ?_), ?_⟩
  · cases z
    exact ⟨_, I1.kIn _ _ KD.at_, rfl⟩
  rw [m.trees]
  refine Calls.callWith_builtin rfl (Calls.evalArgs_plain (Calls.spliced_cons (thn (he.run pins s1 σ H1 _ I1 wish) fun iv s2 h2 => ?_)))
  obtain ⟨y, H2, I2, ry, z, rfl, wish2⟩ := h2
  refine Calls.spliced_cons (thn (hf.run pins s2 σ H2 _ I2 wish2) fun fv s3 h3 => Calls.spliced_nil ?_)
  obtain ⟨v, H3, I3, rz, r, hr, q⟩ := h3
  obtain ⟨t, rfl⟩ := ry
  have mp3 := PySem.W.mapOf_K (prog := X.prog) (w := X.w) I3.kIn KD.at_ KD.lit
  refine call_meetsIn PySem.F.slot_dict_get mp3.typeIs PySem.F.entry_dict_get (PySem.F.args_dict_get_3 _ _ _) (meets_dict_get_default (PySem.strKind X.prog X.w) a (PySem.strKind_is X.prog X.w z t) KD.low fv) ⟨_, mp3, ?_⟩
  rw [PySem.W.find_K KD.at_ hr]
  rcases q with ⟨rfl, q⟩ | ⟨u, v0, rfl, r0, q⟩
  · exact ⟨v, H3, I3.tok _, rz, q⟩
  · exact ⟨v0, H3, I3.tok _, r0, q⟩
end
end DL
end
section
set_option Elab.async false
set_option linter.all false
set_option maxRecDepth 100000
/-! said of data: *xs, y = list; table.get; zip of a constant tuple; != of tuples of texts -/
namespace DL
open PySem PySem.Spec PyProof.Rows L2
section
variable {K : PySem.W.Frag} {ss : Sl} {mem m1 m2 : List Mc} {ta tb te tx : TE} {d e : D} {ds es : List D}
theorem ds_star {i j : Nat} (h : DT K te ss mem (.dat (.lst (ds ++ [d]))) m1) (few : ds.length ≤ 16000) : DS K (tAsg te (gStarL K (gName i) (gName j))) ss mem (.nx ((ss.set i (some (.dat (.lst ds)))).set j (some (.dat d))) m1) := fun B H al σ Dn S k =>
  h B H al σ _ S fun B1 H1 al1 v P1 S1 r1 => by
    cases r1 with
    | @lst a xs _ s r =>
      have ln := r.len
      rw [List.length_append, List.length_singleton] at ln
      obtain ⟨w, e1, e2⟩ := r.get (i := ds.length) (d := d) (by simp)
      have t := r.take ds.length
      rw [List.take_left] at t
      have sp : xs = xs.take ds.length ++ [w] := by
        have z := List.take_append_drop ds.length xs
        have z2 : xs.drop ds.length = [w] := by
          refine List.ext_getElem? fun n => ?_
          rw [List.getElem?_drop]
          match n with
          | 0 => exact e1
          | n + 1 => rw [List.getElem?_eq_none (by omega)]; rfl
        rw [z2] at z
        exact z.symm
      have tl : (xs.take ds.length).length = ds.length := by rw [List.length_take]; omega
      refine ⟨a, xs.take ds.length, w, rfl, by rw [← sp]; exact S1.seqL s, by rw [tl]; exact few, fun p np => ?_⟩
      obtain ⟨P2, S2⟩ := S1.lay (o := .lst (xs.take ds.length)) np
      refine k _ _ _ (P1.trans P2) _ ((S2.put (i := i) (v := .ref p) (r := some (.dat (.lst ds))) fun q z => ?_).put (i := j) (v := w) (r := some (.dat d)) fun q z => ?_)
      · cases z
        exact .lst (SqL.of upd_same) (RepAll.mono P2.same _ t)
      · cases z
        exact Rep.mono P2.same _ e2
theorem dt_kget {a : Addr} {z : Str} {u : Value} {i : Int} (hy : DT K ta ss mem (.dat (.str z)) m1) (hx : DT K tb ss m1 (.dat e) m2) (hn : PySem.W.nsIn K a z = some (some u)) (hr : RelV (.int i) u) : DT K (tKGet K a ta tb) ss mem (.dat (.int i)) m2 := fun B H al σ Q S k =>
  hy B H al σ _ S fun B1 H1 al1 v P1 S1 r1 => by
    cases r1
    exact ⟨z, rfl, hx B1 H1 al1 σ _ S1 fun B2 H2 al2 w P2 S2 r2 => ⟨_, hn, .inr ⟨u, .int i, rfl, hr, k _ _ _ _ (P1.trans P2) S2 (.int i)⟩⟩⟩
theorem di_zipCT {t : TA} (h : DA K t ss mem [.ctp ds, .tup es] m1) (hl : ds.length = es.length) : DI K (RZ.iZipA K t) ss mem ds.length (fun i => .tup [nthD ds i, nthD es i]) m1 := fun B H al σ R S k =>
  h B H al σ _ S fun B1 H1 al1 vs P1 S1 r1 => by
    obtain ⟨v, w, rfl, q1, q2⟩ := two_data r1
    cases q1 with
    | @ctp a xs _ sa ra =>
      cases q2 with
      | @tup b ys _ sb rb =>
        have sb : SqT K B1 b ys := SqT.of sb
        refine ⟨a, b, xs, ys, rfl, .inr ⟨S1.seqT sa, S1.seqT sb, k _ _ _ _ P1 S1 fun B2 H2 al2 σ2 ss2 mem2 grown S2 => ?_⟩⟩
        have ta := S2.seqT (sameT grown sa)
        have tb := S2.seqT (sameT grown sb)
        refine ⟨fun i hi => ?_, fun i hi => ⟨xs, ys, ta, tb, .inl (by rw [ra.len]; exact hi)⟩⟩
        obtain ⟨p, p1, p2⟩ := ra.get (nthD_get hi)
        obtain ⟨q, q1, q2⟩ := rb.get (nthD_get (show i < es.length by omega))
        refine ⟨⟨xs, ys, p, q, ta, tb, p1, q1⟩, fun x H' y => ?_⟩
        obtain ⟨T, x', y', rfl, nT, rfl, f, g⟩ := y
        cases p1.symm.trans (f xs ta)
        cases q1.symm.trans (g ys tb)
        exact S2.layPair nT (Rep.mono grown _ p2) (Rep.mono grown _ q2)
/-- a tuple of texts beside a constant one -/
theorem dp_strs {H : Hp} : ∀ {ys : List Str}, DpAll K H (ys.map V.str) (D.pyAll (ys.map D.str))
  | [] => by
    simp only [List.map_nil, D.pyAll]
    exact .nil
  | y :: ys => by
    simp only [List.map_cons, D.pyAll, D.py]
    exact .cons (.str y) dp_strs
theorem dt_neTC {xs ys : List Str} (ha : DT K ta ss mem (.dat (.tup (xs.map .str))) m1) (hb : DT K tb ss m1 (.dat (.ctp (ys.map .str))) m2) (h1 : SeqAt.shaped (.tuple (D.pyAll (xs.map D.str))) = true) (h2 : SeqAt.shaped (.tuple (D.pyAll (ys.map D.str))) = true) :
    DT K (tOp (rNeD K) ta tb) ss mem (.dat (.bl (!PyData.eqv (.tuple (D.pyAll (xs.map D.str))) (.tuple (D.pyAll (ys.map D.str)))))) m2 :=
  dt_op ha hb fun B H al σ v w Q S hv hw k => by
    cases hv with
    | @tup a vs _ s1 r1 =>
      cases hw with
      | @ctp b us _ s2 r2 =>
        cases reps_strs r1
        cases reps_strs r2
        exact ⟨_, _, .tup (SqT.of (S.sub _ _ s1)) dp_strs, .tup (S.seqT s2) dp_strs, h1, h2, k _ _ _ _ (Stp.refl _ _ _) S (.bl _)⟩
end
end DL
end
section
set_option Elab.async false
set_option linter.all false
set_option maxRecDepth 100000
/-! zip of a list and a tuple -/
namespace DL
open PySem PySem.Spec PyProof.Rows L2
/-- the list at a and the tuple at b, n items each, hand in hand -/
def PrLT (K : PySem.W.Frag) (a b : Addr) (n : Nat) : It where
  go i H := i < n ∧ ∃ xs ys, (SqL K H a xs ∧ xs.length = n) ∧ SqT K H b ys ∧ ys.length = n
  yld i H v H' := ∃ T l r, v = .ref T ∧ H T = none ∧ H' = upd H T (.tup [l, r]) ∧ (∀ zs, SqL K H a zs → zs[i]? = some l) ∧ ∀ zs, SqT K H b zs → zs[i]? = some r
  stop i H := n ≤ i ∧ ∃ xs ys, (SqL K H a xs ∧ xs.length = n) ∧ SqT K H b ys ∧ ys.length = n
theorem turnPrLT {P : Program} {w : World} {K : PySem.W.Frag} {elts : List Expr} {kk : Nat} {tpos : Pos} {a b z TI TO i1 i2 : Addr} {n : Nat} (Z : ZipSep2 z TI TO i1 i2 [i1, a] [i2, b]) (ai : a ≠ i1) (bi : b ≠ i2) :
    Turn P w K (.Tuple elts kk tpos) (PrLT K a b n) [z, TI, TO, i1, i2] z fun i h => i ≤ n ∧ IsZip h z TI TO .none ∧ IsTupOf2 h TI (.ref i1) (.ref i2) ∧ (∃ p q, IsTupOf2 h TO p q) ∧ h.IsListIter i1 a i ∧ h.IsTupleIter i2 b i where
  mem := List.mem_cons_self
  obj i h st c hc := by
    obtain ⟨-, s1, s2, ⟨p, q, s3⟩, ⟨_, g1, -, c1⟩, _, g2, -, c2⟩ := st
    simp only [List.mem_cons, List.not_mem_nil, or_false] at hc
    rcases hc with rfl | rfl | rfl | rfl | rfl
    · exact ⟨_, s1, fun _ y => nomatch y⟩
    · exact ⟨_, s2, fun _ y => nomatch y⟩
    · exact ⟨_, s3, fun _ y => nomatch y⟩
    · exact ⟨_, g1, fun _ y => by rw [c1] at y; cases y⟩
    · exact ⟨_, g2, fun _ y => by rw [c2] at y; cases y⟩
  keep i h h' st k := ⟨st.1, k z (by simp) _ st.2.1, k TI (by simp) _ st.2.2.1, let ⟨p, q, y⟩ := st.2.2.2.1; ⟨p, q, k TO (by simp) _ y⟩, st.2.2.2.2.1.at (k i1 (by simp)), st.2.2.2.2.2.at (k i2 (by simp))⟩
  self A i s Q E st k := wpAny_pyIter_zip st.2.1 k
  item := by
    rintro X rfl rfl rfl calm i pins s σ H E I free ⟨-, s1, s2, s3, g1, g2⟩ ⟨lt, xs, ys, ⟨sa, na⟩, sb, nb⟩
    obtain ⟨us, relu, pl, -⟩ := I.list sa
    obtain ⟨ws, relw, tup, -⟩ := I.tuple sb
    have hh : X.A.in1.handled = none := I.ok.hd calm
    have W := WalksT.zipD2 Z (Draws.list (prog := X.prog) (w := X.w) (A := X.A.in1) hh i1 a ai us.toArray) (Draws.tuple (prog := X.prog) (w := X.w) (A := X.A.in1) hh i2 b bi ws.toArray)
    have lu := relu.length
    have lw := relw.length
    obtain ⟨u, eu, ru⟩ := relu.get (List.getElem?_eq_getElem (show i < xs.length by omega))
    obtain ⟨v, ev, rv⟩ := relw.get (List.getElem?_eq_getElem (show i < ys.length by omega))
    refine W.item i s _ _ (by rw [List.size_toArray, List.size_toArray]; omega) ⟨s1, s2, s3, ⟨g1, pl.isList⟩, g2, tup⟩ fun T vals h1 tk ⟨u', v', hu, hv, he⟩ new hT mid k1 => ⟨_, rfl, W.go elts kk tpos i T _ _ _ mid fun h2 ⟨t1, t2, t3, t4, t5⟩ k2 => ?_⟩
    have hu : us[i]? = some u' := by simpa using hu
    have hv : ws[i]? = some v' := by simpa using hv
    cases eu.symm.trans hu
    cases ev.symm.trans hv
    have nT : T ∉ [z, TO, i1, i2] := W.apart i T _ mid
    obtain ⟨oT, gT, cT, nn, dT⟩ := hT
    have pair : ObjOk X.prog X.w (upd H T (.tup [xs[i], ys[i]])) h2 T (.tup [xs[i], ys[i]]) :=
      ⟨by rw [sizeLine_eq]; show 2 ≤ 16777216; omega, [u, v], .cons ru (.cons rv .nil), oT, k2 T oT nT gT, cT, nn, by rw [dT, he]⟩
    have onlyL : ∀ zs, SqL X.K H a zs → zs[i]? = some xs[i] := fun zs hy => by
      cases I.list_inj sa hy
      exact List.getElem?_eq_getElem _
    have onlyT : ∀ zs, SqT X.K H b zs → zs[i]? = some ys[i] := fun zs hy => by
      cases I.tuple_inj sb hy
      exact List.getElem?_eq_getElem _
    have inch : ∀ {c : Addr}, c ∉ [z, TI, TO, i1, i2] → c ∉ [z, TO, i1, i2] := fun hc y => hc (by simp only [List.mem_cons, List.not_mem_nil, or_false] at y ⊢; rcases y with y | y | y | y <;> simp [y])
    refine ⟨.ref T, _, I.turnedNew (t' := tk) (fun c o nc g => k2 c o (inch nc) (k1 c o (inch nc) g)) free new pair, rfl, ⟨T, _, _, rfl, I.hok.fresh new, rfl, onlyL, onlyT⟩, ⟨lt, t1, t2, t3, t4.1, t5.1⟩, fun c hc => ?_⟩
    have cT : c ≠ T := fun y => by
      have old : ∃ o, s.heap.get? c = some o := by
        obtain ⟨o1, q1, -⟩ := g1
        obtain ⟨o2, q2, -⟩ := g2
        obtain ⟨_, _, q3⟩ := s3
        simp only [List.mem_cons, List.not_mem_nil, or_false] at hc
        rcases hc with e | e | e | e | e
        · exact ⟨_, e ▸ s1⟩
        · exact ⟨_, e ▸ s2⟩
        · exact ⟨_, e ▸ q3⟩
        · exact ⟨_, e ▸ q1⟩
        · exact ⟨_, e ▸ q2⟩
      obtain ⟨o, ho⟩ := old
      exact Nat.lt_irrefl _ (Nat.lt_of_lt_of_le (Heap.lt_size ho) (y ▸ new))
    exact (upd_ne cT).trans (free c hc).1
  done := by
    rintro X rfl rfl rfl calm i pins s σ H E I free ⟨le, s1, s2, s3, g1, g2⟩ ⟨ge, xs, ys, ⟨sa, na⟩, sb, nb⟩
    obtain ⟨us, relu, pl, -⟩ := I.list sa
    obtain ⟨ws, relw, tup, -⟩ := I.tuple sb
    have hh : X.A.in1.handled = none := I.ok.hd calm
    have W := WalksT.zipD2 Z (Draws.list (prog := X.prog) (w := X.w) (A := X.A.in1) hh i1 a ai us.toArray) (Draws.tuple (prog := X.prog) (w := X.w) (A := X.A.in1) hh i2 b bi ws.toArray)
    have lu := relu.length
    have lw := relw.length
    have len : i = min us.toArray.size ws.toArray.size := by rw [List.size_toArray, List.size_toArray]; omega
    subst len
    have inch : ∀ {c : Addr}, c ∉ [z, TI, TO, i1, i2] → c ∉ [z, TO, i1, i2] := fun hc y => hc (by simp only [List.mem_cons, List.not_mem_nil, or_false] at y ⊢; rcases y with y | y | y | y <;> simp [y])
    exact W.done s _ _ ⟨s1, s2, s3, ⟨g1, pl.isList⟩, g2, tup⟩ fun h1 tk k1 => ⟨rfl, I.turnedL (fun c o nc g => k1 c o (inch nc) g) free⟩
def iZipLT (K : PySem.W.Frag) (ta : TA) : TI := fun σ H R => ta σ H fun vs H1 => ∃ a b xs ys, vs = [.ref a, .ref b] ∧ SqL K H1 a xs ∧ SqT K H1 b ys ∧ xs.length = ys.length ∧ R (PrLT K a b xs.length) H1
theorem piZipLT {X : Cx} {e e2 : Expr} {ta : TA} {p pos tpos : Pos} {elts : List Expr} {kk : Nat} (K : PySem.W.Frag) (hg : Gl X "zip") (hm : X.mg "zip" = none) (ha : PA X [e, e2] ta) (hK : X.K = K := by rfl)
    (plain1 : starEach [e, e2] X.env = (false, eval e X.env) :: starEach [e2] X.env := by rfl)
    (plain2 : (backTo pos (starEach [e2] X.env)).any (·.1) = false := by rfl) : PI X (.Tuple elts kk tpos) (.Call (.Name "zip" p) [e, e2] [] pos) (iZipLT K ta) := hK ▸ ⟨fun pins s σ H R I wish => by
  refine Call_ (ld_blt I hg hm PyProof.Rows.boot_zip (PyProof.Rows.callWith_type1 (thn (ha.run pos pins s σ H _ I wish) fun us s1 came => ?_) plain1 plain2))
  obtain ⟨vs, H1, I1, rel, a, b, xs, ys, rfl, sa, sb, len, k⟩ := came
  cases rel with | cons p1 q => ?_
  cases q with | cons p2 q => ?_
  cases q
  cases p1
  cases p2
  obtain ⟨its, -, pl, -⟩ := I1.list sa
  obtain ⟨its2, -, tup, -⟩ := I1.tuple sb
  have la : a < s1.heap.objs.size := pl.isList.elim fun o y => Heap.lt_size y.1
  have lb : b < s1.heap.objs.size := let ⟨_, g, _⟩ := tup; Heap.lt_size g
  refine zip_begins2 (begins_list a its.toArray) (begins_tuple b its2.toArray) pl.isList tup fun h' hz hTI hTO q1 q2 hsz old => wpAny_pyIter_zip hz ?_
  refine ⟨_, [s1.heap.objs.size + 4, s1.heap.objs.size + 2, s1.heap.objs.size + 3, s1.heap.objs.size, s1.heap.objs.size + 1], _, _, H1, rfl, I1.kept (t' := s1.toks) old,
    turnPrLT (zip_sep2 (fp1 := [a]) (fp2 := [b]) (fun c hc => by rw [List.mem_singleton.mp hc]; exact la) (fun c hc => by rw [List.mem_singleton.mp hc]; exact lb)) (Nat.ne_of_lt la) (Nat.ne_of_lt (Nat.lt_succ_of_lt lb)),
    ⟨Nat.zero_le _, hz, hTI, ⟨_, _, hTO⟩, ⟨_, q1, rfl, rfl⟩, ⟨_, q2, rfl, rfl⟩⟩, fun c hc => ?_, k⟩
  have ge : s1.heap.objs.size ≤ c := by
    simp only [List.mem_cons, List.not_mem_nil, or_false] at hc
    rcases hc with e | e | e | e | e <;> rw [e] <;> simp
  exact I1.fpOk ge (I1.hok.fresh ge)⟩
section
variable {K : PySem.W.Frag} {ss : Sl} {mem m1 : List Mc}
theorem di_zipLT {ds es : List D} {t : TA} (h : DA K t ss mem [.lst ds, .tup es] m1) (hl : ds.length = es.length) : DI K (iZipLT K t) ss mem ds.length (fun i => .tup [nthD ds i, nthD es i]) m1 := fun B H al σ R S k =>
  h B H al σ _ S fun B1 H1 al1 vs P1 S1 r1 => by
    obtain ⟨v, w, rfl, q1, q2⟩ := two_data r1
    cases q1 with
    | @lst a xs _ sa ra =>
      cases q2 with
      | @tup b ys _ sb rb =>
        have sb : SqT K B1 b ys := SqT.of sb
        have lx : xs.length = ys.length := by rw [ra.len, rb.len]; exact hl
        refine ⟨a, b, xs, ys, rfl, S1.seqL sa, S1.seqT sb, lx, k _ _ _ _ P1 S1 fun B2 H2 al2 σ2 ss2 mem2 grown S2 => ?_⟩
        have ta := S2.seqL (grown.seq sa)
        have tb := S2.seqT (sameT grown sb)
        refine ⟨fun i hi => ⟨⟨by rw [ra.len]; exact hi, xs, ys, ⟨ta, rfl⟩, tb, lx.symm⟩, fun x H' y => ?_⟩, fun i hi => ⟨by rw [ra.len]; exact hi, xs, ys, ⟨ta, rfl⟩, tb, lx.symm⟩⟩
        obtain ⟨p, p1, p2⟩ := ra.get (nthD_get hi)
        obtain ⟨q, q1, q2⟩ := rb.get (nthD_get (show i < es.length by omega))
        obtain ⟨T, x', y', rfl, nT, rfl, f, g⟩ := y
        cases p1.symm.trans (f xs ta)
        cases q1.symm.trans (g ys tb)
        exact S2.layPair nT (Rep.mono grown _ p2) (Rep.mono grown _ q2)
end
end DL
end
section
set_option Elab.async false
set_option linter.all false
set_option maxRecDepth 100000
/-! how many keys a dict has, locked or not -/
namespace DL
open PySem PySem.Spec PyProof.Rows L2
def rLenR : List V → Hp → VK → Prop := fun xs H Q => ∃ a kvs, xs = [.ref a] ∧ Rd H a (.dT kvs) ∧ Q (.int (kvs.length : Nat)) H
theorem callLenR {X : Cx} : CallR X (.builtin "len") rLenR := by
  rintro pins s σ H xs us Q I rel ⟨a, kvs, rfl, rd, wish⟩
  cases rel with | cons r1 r2 => ?_
  cases r2
  cases r1
  obtain ⟨few, low, ents, same, lies⟩ := dt_rd I.hok rd
  have n : kvs.length = ents.length := Paired.length same
  rw [sizeLine_eq] at few
  refine call_len_dictH low lies (by omega) ?_
  rw [← n]
  exact ⟨.int (kvs.length : Nat), H, I.tok _, ⟨s.toks + 1, rfl⟩, wish⟩
section
variable {K : PySem.W.Frag} {ss : Sl} {mem m1 : List Mc} {te : TE} {x : Vl} {m : List (List Int × D)}
theorem kvs_len {B : Hp} : ∀ {m : List (List Int × D)} {kvs : List (List L2.Key × V)}, RepKv K B kvs m → kvs.length = m.length
  | [], _, h => by cases h; rfl
  | _ :: _, _, h => by cases h with | cons _ h => exact congrArg (· + 1) (kvs_len h)
theorem dt_lenD (h : DT K te ss mem x m1) (hm : IsDic m1 x m) : DT K (tCB rLenR (tCons te tNil)) ss mem (.dat (.int (m.length : Nat))) m1 := fun B H al σ Q S k =>
  h B H al σ _ S fun B1 H1 al1 v P1 S1 r1 => by
    obtain ⟨a, kvs, rfl, rd, kv⟩ := dic_at S1 r1 hm
    exact ⟨a, kvs, rfl, rd, kvs_len kv ▸ k _ _ _ _ P1 S1 (.int _)⟩
end
end DL
end
section
set_option Elab.async false
set_option linter.all false
set_option maxRecDepth 100000
/-! comprehensions of more clauses, no tests: a clause's walk at any depth, used once for each clause -/
namespace DL
open PySem PySem.Spec PyProof.Rows L2
abbrev TB := L2.St → Hp → (Hp → Prop) → Prop
/-- a clause's walk, tb what each of its turns does -/
def tWk (J : It) (g : TG) (vs : List Nat) (tb : TB) : TB := fun σ H fin =>
  ∃ W : Nat → Nat → Hp → Prop, (∃ m, W 0 m H) ∧
    ∀ i m h, W i m h → (J.stop i h ∧ fin h) ∨ (J.go i h ∧ ∃ nx : Hp → Prop, (∀ h2, nx h2 → ∃ m2, m2 < m ∧ W (i + 1) m2 h2) ∧
      ∀ x h2, J.yld i h x h2 → g x (wipe σ vs) h2 fun τ h3 => wipe τ vs = wipe σ vs ∧ tb τ h3 nx)
def tIn (wi : TI) (g : TG) (vs : List Nat) (tb : TB) : TB := fun σ H fin => wi σ H fun J h => tWk J g vs tb σ h fin
def tPut (te : TE) (D : Addr) : TB := fun σ H fin => te σ H fun y h => ∃ xs, h D = some (.lst xs) ∧ xs.length < sizeLine ∧ fin (upd h D (.lst (xs ++ [y])))
abbrev Act := Sem Fin → Sem Fin
structure PB (Y : Cx) (act : Act) (us : List Nat) (tb : TB) : Prop where
  goes : ∀ (pins : List (Addr × Obj)) (s : Shared) (σ : L2.St) (H : Hp) (fin : Hp → Prop) (next : Sem Fin) (Q : Fin → Shared → Prop) (F : Value → Shared → Prop), Inv Y pins σ H s → tb σ H fin →
    (∀ t h, Inv Y pins (wipe σ us) h t → fin h → wpAny (model Y.prog Y.w) Y.A next Q F t) → wpAny (model Y.prog Y.w) Y.A (act next) Q F s
def putAct (elt : Expr) (acc : Value) (env : Env) : Act := fun next =>
  (eval elt env >>= fun y => call (.builtin "list.append") [acc, y] >>= fun _ => pure ()) >>= fun _ => next
def inAct (e : Expr) (k : Nat) (src : Expr) (acc : Value) (env : Env) : Act := fun next =>
  eval src env >>= fun x => standAt src.pos >>= fun _ => foldedSetIterable src env x >>= fun x =>
    holding [x] (pyIter x) >>= fun i => runOwn (.compStart e k i acc env) env >>= fun _ => next
def TurnEq (e : Expr) (k : Nat) (p : Pos) (tg : Expr) (act : Value → Env → Act) : Prop := ∀ (it acc : Value) (env : Env),
  compTurn e k it acc env = (standAt p >>= fun _ => pyNext it >>= fun r =>
    match r with
    | none => pure (.done .next)
    | some v => letOwnedTupleGo tg it v >>= fun _ => assign tg env v >>= fun _ => act acc env (again (.compLoop e k it acc env)))
section
variable {Y : Cx} {elt tg src : Expr} {cls : List Comprehension} {scope : Scope} {pos : Pos} {k : Nat} {p : Pos} {g : TG} {us vs : List Nat} {tb : TB} {te : TE} {wi : TI} {D : Addr} {acc : Value} {act : Value → Env → Act}
theorem pb_put (calm : Y.xe = fun _ _ => False) (h : PE Y elt te) : PB Y (putAct elt (.ref D) Y.env) [] (tPut te D) := ⟨fun pins s σ H fin next Q F I w fine => by
  have z := h.run pins s σ H _ I w
  rw [calm] at z
  refine wpAny_bind (wpAny_bind (thnF z fun v t q => ?_))
  obtain ⟨y, h1, I1, r1, xs, at_, few, f⟩ := q
  exact wpAny_bind (app_ok I1 at_ few r1 fun t2 I2 => wpAny_pure (fine _ _ I2 f))⟩
theorem walk_ok {it : Addr} {J : It} {fp : List Addr} {tn : Nat → Heap → Prop} {pins : List (Addr × Obj)} {s : Shared} {σ : L2.St} {H : Hp} {fin : Hp → Prop} {R : Result → Shared → Prop}
    (hc : Y.calm = true) (calm : Y.xe = fun _ _ => False) (eq : TurnEq (.ListComp elt cls scope pos) k p tg act) (T : Turn Y.prog Y.w Y.K tg J fp it tn) (pg : PG Y tg g) (pb : PB Y (act acc Y.env) us tb) (sub : ∀ u ∈ us, u ∈ vs)
    (I : Inv Y pins (wipe σ vs) H s) (st : tn 0 s.heap) (ok : ∀ b ∈ fp, FpOk Y pins H b) (w : tWk J g vs tb σ H fin) (last : ∀ t h, Inv Y pins (wipe σ vs) h t → fin h → R (.ok .next) t) :
    codeAny (model Y.prog Y.w) Y.A (.compLoop (.ListComp elt cls scope pos) k (.ref it) acc Y.env) R s := by
  obtain ⟨W, ⟨m, w0⟩, turn⟩ := w
  refine codeAny_loop rfl (fun n t => ∃ i h, Inv Y pins (wipe σ vs) h t ∧ tn i t.heap ∧ (∀ b ∈ fp, h b = none) ∧ W i n h) (fun n t ⟨i, h, I1, st1, no, w1⟩ => ?_) m ⟨0, H, I, st, fun b hb => (ok b hb).1, w0⟩
  show wpAny _ _ (Sem.onRaise (compTurn (.ListComp elt cls scope pos) k (.ref it) acc Y.env) _) _ _ t
  refine wpAny_noted ?_
  rw [eq]
  have own : ∀ b ∈ fp, FpOk Y pins h b := fun b hb => ⟨no b hb, (ok b hb).2⟩
  refine wpAny_bind (wpAny_standAt (wpAny_bind ?_))
  rcases turn i n h w1 with ⟨stop, f⟩ | ⟨go, nx, less, step⟩
  · refine thnF (T.done Y rfl rfl rfl hc i pins t _ h (fun _ _ => False) I1 own st1 stop) fun r t2 ⟨er, I2⟩ => ?_
    subst er
    exact wpAny_pure (last _ _ I2 f)
  refine thnF (T.item Y rfl rfl rfl hc i pins t _ h (fun _ _ => False) I1 own st1 go) fun r t2 ⟨u, er, q⟩ => ?_
  subst er
  refine wpAny_bind (thnF q fun _ t3 ⟨x, h3, I3, rx, y3, st3, no3⟩ => ?_)
  have I4 := I3.pinned (fun b hb => ⟨no3 b hb, (ok b hb).2⟩) (T.obj _ _ st3)
  have stored := pg.run _ t3 _ h3 x u _ I4 rx (step x h3 y3)
  rw [calm] at stored
  refine wpAny_bind (thnF stored fun _ t5 ⟨τ, h5, I5, same, b5⟩ => ?_)
  refine pb.goes _ t5 τ h5 _ _ _ _ I5 b5 fun t6 h6 I6 n6 => ?_
  obtain ⟨m2, lt, w2⟩ := less h6 n6
  have kept : ∀ b ∈ fp, ∀ o, t3.heap.get? b = some o → t6.heap.get? b = some o ∧ h6 b = none := fun b hb o there =>
    have z := I6.pin (b, o) (List.mem_append_right _ (List.mem_append_right _ (mem_pinsAt hb there)))
    ⟨z.1, z.2.1⟩
  refine wpAny_pure ⟨rfl, m2, lt, i + 1, h6, (I6.unpinned (pins := pins)).weak ?_ (fun j v there => ?_), T.keep _ _ _ st3 (fun b hb o q => (kept b hb o q).1), (fun b hb => ?_), w2⟩
  · rw [← same, wipe_length, wipe_length]
  · rw [← same] at there
    obtain ⟨z1, z2⟩ := wipe_some there
    rw [wipe_out fun z => z2 (sub j z)]
    exact z1
  · obtain ⟨o, there, _⟩ := T.obj _ _ st3 b hb
    exact (kept b hb o there).2
theorem start_ok {k : Nat} {prog : Program} {w : World} {A : Around} {it : Value} {env : Env} {R : Result → Shared → Prop} {s : Shared} {c : Comprehension} (hk : cls[k]? = some c) (na : c.is_async = 0)
    (h0 : codeAny (model prog w) A (.compLoop (.ListComp elt cls scope pos) k it acc env) R s)
    (h1 : wpAny (model prog w) A (pyIter it) (fun i t => codeAny (model prog w) A (.compLoop (.ListComp elt cls scope pos) k i acc env) R t) (fun _ _ => False) s) :
    codeAny (model prog w) A (.compStart (.ListComp elt cls scope pos) k it acc env) R s := by
  refine codeAny_of_tree ?_
  show wpAny _ _ (Sem.onRaise (compStart (.ListComp elt cls scope pos) k it acc env) _) _ _ s
  refine wpAny_notedAt ?_
  unfold compStart
  have hk' : (clausesOf (.ListComp elt cls scope pos))[k]? = some c := hk
  rw [hk']
  simp only [Option.elim, na]
  show wpAny _ _ (ask >>= _) _ _ s
  refine wpAny_bind (wpAny_askSetting (wpAny_ite ?_))
  split
  · exact wpAny_bind (wpAny_pure (wpAny_pure ⟨rfl, h0⟩))
  · refine wpAny_bind (wpAny_rule ?_)
    show wpAny _ _ (standAt c.iter.pos >>= _) _ _ s
    exact wpAny_bind (wpAny_standAt (wpAny_bind (wpAny_mono h1 (fun i t q => wpAny_pure ⟨rfl, q⟩) fun _ _ z => z.elim)))
theorem pb_in {k : Nat} (hc : Y.calm = true) (calm : Y.xe = fun _ _ => False) (hk : cls[k]? = some ⟨tg, src, [], 0⟩) (plain : ∀ env x, foldedSetIterable src env x = pure x) (eq : TurnEq (.ListComp elt cls scope pos) k p tg act)
    (pi : PI Y tg src wi) (pg : PG Y tg g) (pb : PB Y (act acc Y.env) us tb) (sub : ∀ u ∈ us, u ∈ vs) : PB Y (inAct (.ListComp elt cls scope pos) k src acc Y.env) vs (tIn wi g vs tb) := ⟨fun pins s σ H fin next Q F I w fine => by
  have z := pi.run pins s σ H _ I w
  rw [calm] at z
  refine wpAny_bind (thnF z fun x t q => wpAny_bind (wpAny_standAt (wpAny_bind (wpAny_of_eq (plain _ x) (wpAny_bind (wpAny_holding (thnF q fun i t2 r => ?_)))))))
  obtain ⟨it, fp, tn, J, h, ei, I2, T, st, ok, w2⟩ := r
  subst ei
  have loop : codeAny (model Y.prog Y.w) Y.A (.compLoop (.ListComp elt cls scope pos) k (.ref it) acc Y.env) (fun r t => match r with
      | .ok _ => ∃ h, Inv Y pins (wipe σ vs) h t ∧ fin h
      | .error _ => False) t2 :=
    walk_ok hc calm eq T pg pb sub (I2.weak (wipe_length _ _) fun j v there => (wipe_some there).1) st ok w2 fun t3 h3 I3 f => ⟨h3, I3, f⟩
  refine wpAny_bind (wpAny_runOwn ?_)
  rw [Around.mark_none]
  refine codeAny_mono (start_ok hk rfl loop (T.self Y.A 0 _ _ _ st loop)) fun r t4 done => ?_
  cases r with
  | ok f =>
    obtain ⟨h5, I5, f5⟩ := done
    exact fine _ _ I5 f5
  | error x => exact done.elim⟩
end
section
variable {X : Cx}
/-- [elt for tg in iter for ..]: tb what the clauses behind the first one do with the new list -/
def tLcB (wi : TI) (g : TG) (vs : List Nat) (tb : Addr → TB) : TE := fun σ H Q => wi σ H fun J h => ∀ D, h D = none → tWk J g vs (tb D) σ (upd h D (.lst [])) fun h2 => Q (.ref D) h2
abbrev cellsOf (X : Cx) (scope : Scope) (n : Nat) : List (Str × Addr) := cellsFrom (n + 1) scope.names (cloFrom X.env.cells scope.names [])
theorem pe_lcB {elt tg iter : Expr} {rest : List Comprehension} {scope : Scope} {own : List (Str × Nat)} {us : List Nat} {pos p : Pos} {wi : TI} {g : TG} {tb : Addr → TB} {act : Value → Env → Act}
    (hc : X.calm = true) (hN : X.N.Nodup) (hi : PI X tg iter wi) (ok : BlkOk X.N X.env.scope scope own) (eq : TurnEq (.ListComp elt (⟨tg, iter, [], 0⟩ :: rest) scope pos) 0 p tg act)
    (hg : ∀ s H C cl fp, PG (X.blk s H scope (compEnvC scope cl C X.env) fp) tg g)
    (hb : ∀ s H C cl fp D, PB (X.blk s H scope (compEnvC scope cl C X.env) fp) (act (.ref D) (compEnvC scope cl C X.env)) us (tb D))
    (sub : ∀ u ∈ us, u ∈ own.map (·.2)) (hs : ∀ x, foldedSetIterable iter X.env x = pure x := by intro _; rfl) :
    PE X (.ListComp elt (⟨tg, iter, [], 0⟩ :: rest) scope pos) (tLcB wi g (own.map (·.2)) tb) := by
  refine ⟨fun pins s σ H Q I h => ?_⟩
  rw [eval_ListComp]
  have caught : ∀ y ∈ scope.names, y.2 = .free → ∃ c, X.env.cells.lookup y.1 = some c := fun y hy e => I.ok.has _ (ok.free y hy e)
  refine wpAny_comprehension_free (use := none) rfl hs (closure_ok caught) ok.kind (fun y hy e => (ok.uniq y hy).trans (congrArg some e)) (thn (hi.run pins s σ H _ I h) fun v s1 q1 => thn q1 fun i s2 q2 => ?_)
  obtain ⟨it, fp, tn, J, h2, ei, I2, T, st2, f2, walk⟩ := q2
  subst ei
  refine wpAny_newObj_type (newEnv_comp ?_) (Nat.zero_le _)
  obtain ⟨D, eD⟩ : ∃ D, D = s2.heap.objs.size := ⟨_, rfl⟩
  have none_ : h2 D = none := I2.hok.fresh (Nat.le_of_eq eD.symm)
  have w := walk D none_
  obtain ⟨h3, eh3⟩ : ∃ h3, h3 = upd h2 D (.lst []) := ⟨_, rfl⟩
  obtain ⟨s3, e3⟩ : ∃ s3 : Shared, s3 = { s2 with heap := s2.heap.push { cls := .type "list", data := .seq ([] : List Value).toArray } } := ⟨_, rfl⟩
  have grown : s3.heap = s2.heap.push { cls := .type "list", data := .seq ([] : List Value).toArray } := by rw [e3]
  have I3 : Inv X pins σ h3 s3 := by
    rw [e3, eh3]
    refine I2.laid (t' := s2.toks) (fun b o e => Heap.get?_push_of_some _ e) (Nat.le_of_eq eD.symm) ⟨Nat.zero_le _, [], 0, .nil, ?_⟩
    rw [eD]
    exact Heap.get?_push_size _ rfl
  have apart : ∀ b ∈ fp, FpOk X pins h3 b ∧ b < s3.heap.objs.size := fun b hb => by
    have lt : b < s2.heap.objs.size := Heap.lt_size (T.obj _ _ st2 b hb).choose_spec.1
    refine ⟨⟨?_, (f2 b hb).2⟩, by rw [grown, Heap.size_push]; exact Nat.lt_succ_of_lt lt⟩
    rw [eh3, upd_ne (by rw [eD]; exact Nat.ne_of_lt lt)]
    exact (f2 b hb).1
  have I4 := block_start I3 ok hN apart
  obtain ⟨ce, ece⟩ : ∃ ce, ce = compEnvC scope (cellsOf X scope s3.heap.objs.size) s3.heap.objs.size X.env := ⟨_, rfl⟩
  have pg := hg s3 h3 s3.heap.objs.size (cellsOf X scope s3.heap.objs.size) fp
  have pb := hb s3 h3 s3.heap.objs.size (cellsOf X scope s3.heap.objs.size) fp D
  rw [← ece] at I4 pg pb
  have place : ce.locals = s3.heap.objs.size := by rw [ece]; rfl
  rw [← eh3] at w
  rw [← e3, ← eD]
  show codeAny _ _ (.compStart (.ListComp elt (⟨tg, iter, [], 0⟩ :: rest) scope pos) 0 (.ref it) (.ref D) (compEnvC scope (cellsOf X scope s3.heap.objs.size) s3.heap.objs.size X.env)) (compPost (model X.prog X.w) X.A X.xe none _ (.ref D) s3.heap.objs.size) _
  rw [← ece]
  have st3 : tn 0 s3.heap := T.keep _ _ _ st2 fun b _ o e => by rw [grown]; exact Heap.get?_push_of_some _ e
  have st4 : tn 0 (pushCells (s3.heap.push { cls := .type "dict", data := .dict #[] }) scope.names) := T.keep _ _ _ st3 fun b _ o e => pushCells_keeps _ _ _ _ (Heap.get?_push_of_some _ e)
  have fresh4 : ∀ b ∈ fp, FpOk (X.blk s3 h3 scope ce fp) [] h3 b := fun b hb =>
    ⟨(apart b hb).1.1, (I4.ok.exf b hb).1, I4.ok.exfs b hb, .inl hb, fun x c e => (I4.ok.exf b hb).2 x c e, fun q hq => absurd hq (by simp)⟩
  have loop := walk_ok (Y := X.blk s3 h3 scope ce fp) (R := compPost (model X.prog X.w) X.A X.xe none (fun v t => EP X pins σ Q v t) (.ref D) s3.heap.objs.size) hc rfl eq T pg pb sub I4 st4 fresh4 w fun t h5 I5 last => by
    have I6 : Inv X pins σ h5 t := I3.call' (ch := fp) I5.os I5.base I5.hok I5.bare fun b hb => ⟨(apart b hb).1.2.2.2.1, (apart b hb).1.2.1, (apart b hb).1.2.2.2.2.1, (apart b hb).1.2.2.2.2.2⟩
    have gone : h5 s3.heap.objs.size = none := place ▸ I5.free
    obtain ⟨m, hn, _⟩ := I5.loc
    obtain ⟨g0, g1, g2, g3, g4, g5⟩ := I3.fpOk (H' := h5) (Nat.le_refl _) gone
    have hn' : t.heap.Ns s3.heap.objs.size m := place ▸ hn
    exact ⟨m, hn', fun h6 sb => ⟨.ref D, h5, I6.turned (t' := t.toks) (fun b o nb there => (sb.2 b nb).trans there) g0 g1 g3 g4 g5, rfl, last⟩⟩
  exact codeAny_compStart_list loop (T.self _ 0 _ _ _ st4 loop)
end
section
variable {elt tg iter tg1 iter1 tg2 iter2 : Expr} {scope : Scope} {pos : Pos}
abbrev lc3 (elt tg iter tg1 iter1 tg2 iter2 : Expr) (scope : Scope) (pos : Pos) : Expr := .ListComp elt [⟨tg, iter, [], 0⟩, ⟨tg1, iter1, [], 0⟩, ⟨tg2, iter2, [], 0⟩] scope pos
theorem turn0 : TurnEq (lc3 elt tg iter tg1 iter1 tg2 iter2 scope pos) 0 iter.pos tg (inAct (lc3 elt tg iter tg1 iter1 tg2 iter2 scope pos) 1 iter1) := fun it acc env => by rfl
theorem turn1 : TurnEq (lc3 elt tg iter tg1 iter1 tg2 iter2 scope pos) 1 iter1.pos tg1 (inAct (lc3 elt tg iter tg1 iter1 tg2 iter2 scope pos) 2 iter2) := fun it acc env => by rfl
theorem turn2 : TurnEq (lc3 elt tg iter tg1 iter1 tg2 iter2 scope pos) 2 iter2.pos tg2 (putAct elt) := fun it acc env => by rfl
end
section
variable {X : Cx}
theorem pe_lc3 {elt tg iter tg1 iter1 tg2 iter2 : Expr} {scope : Scope} {own : List (Str × Nat)} {vs1 vs2 : List Nat} {pos : Pos} {wi wi1 wi2 : TI} {g g1 g2 : TG} {te : TE}
    (hc : X.calm = true) (hN : X.N.Nodup) (hi : PI X tg iter wi) (ok : BlkOk X.N X.env.scope scope own) (v1 : ∀ u ∈ vs1, u ∈ own.map (·.2)) (v2 : ∀ u ∈ vs2, u ∈ vs1)
    (hg : ∀ s H C cl fp, PG (X.blk s H scope (compEnvC scope cl C X.env) fp) tg g)
    (hi1 : ∀ s H C cl fp, PI (X.blk s H scope (compEnvC scope cl C X.env) fp) tg1 iter1 wi1)
    (hg1 : ∀ s H C cl fp, PG (X.blk s H scope (compEnvC scope cl C X.env) fp) tg1 g1)
    (hi2 : ∀ s H C cl fp, PI (X.blk s H scope (compEnvC scope cl C X.env) fp) tg2 iter2 wi2)
    (hg2 : ∀ s H C cl fp, PG (X.blk s H scope (compEnvC scope cl C X.env) fp) tg2 g2)
    (he : ∀ s H C cl fp, PE (X.blk s H scope (compEnvC scope cl C X.env) fp) elt te)
    (hs : ∀ x, foldedSetIterable iter X.env x = pure x := by intro _; rfl) (hs1 : ∀ env x, foldedSetIterable iter1 env x = pure x := by intro _ _; rfl) (hs2 : ∀ env x, foldedSetIterable iter2 env x = pure x := by intro _ _; rfl) :
    PE X (.ListComp elt [⟨tg, iter, [], 0⟩, ⟨tg1, iter1, [], 0⟩, ⟨tg2, iter2, [], 0⟩] scope pos) (tLcB wi g (own.map (·.2)) fun D => tIn wi1 g1 vs1 (tIn wi2 g2 vs2 (tPut te D))) :=
  pe_lcB hc hN hi ok turn0 hg (fun s H C cl fp D =>
    pb_in (us := vs2) hc rfl rfl hs1 turn1 (hi1 s H C cl fp) (hg1 s H C cl fp)
      (pb_in (us := []) hc rfl rfl hs2 turn2 (hi2 s H C cl fp) (hg2 s H C cl fp) (pb_put rfl (he s H C cl fp)) fun u hu => (List.not_mem_nil hu).elim) v2) v1 hs
end
end DL
end
section
set_option Elab.async false
set_option linter.all false
set_option maxRecDepth 100000
/-! comprehensions of more clauses, said of data -/
namespace DL
open PySem PySem.Spec PyProof.Rows L2
section
variable {K : PySem.W.Frag} {ss s1 : Sl} {mem m m1 : List Mc} {te : TE} {tb : Addr → TB} {wi : TI} {g : TG} {vs : List Nat} {n : Nat} {it : Nat → D} {d : D} {f : Nat → List D}
/-- what was true of values stays so -/
structure Mv (B : Hp) (al : List Addr) (B' : Hp) (al' : List Addr) : Prop where
  same : Same B B'
  get : ∀ (i : Nat) (a : Addr), al[i]? = some a → al'[i]? = some a
theorem Mv.refl (B : Hp) (al : List Addr) : Mv B al B al := ⟨Same.refl B, fun _ _ h => h⟩
theorem Mv.trans {B B1 B2 : Hp} {al al1 al2 : List Addr} (a : Mv B al B1 al1) (b : Mv B1 al1 B2 al2) : Mv B al B2 al2 := ⟨a.same.trans b.same, fun i x h => b.get i x (a.get i x h)⟩
theorem Stp.mv {B H B' H' : Hp} {al al' : List Addr} (a : Stp B H al B' H' al') : Mv B al B' al' := ⟨a.same, fun _ _ h => a.get h⟩
theorem Mv.vl {B B' : Hp} {al al' : List Addr} (a : Mv B al B' al') {v : V} {r : Vl} (h : VlOk K B al v r) : VlOk K B' al' v r := by
  cases r with
  | dat d => exact Rep.mono a.same d h
  | own i =>
    obtain ⟨x, there, e⟩ := h
    exact ⟨x, a.get _ _ there, e⟩
  | tl ds =>
    obtain ⟨x, xs, e, there, all⟩ := h
    exact ⟨x, xs, e, a.same _ _ there, RepAll.mono a.same ds all⟩
  | lk ds =>
    obtain ⟨x, o, xs, e, there, all⟩ := h
    exact ⟨x, o, xs, e, a.same _ _ there, RepKv.mono a.same ds all⟩
theorem Sit.backM {B H B' H' : Hp} {al al' : List Addr} {σ σ2 : L2.St} {ss2 : Sl} {m2 : List Mc} (S : Sit K B H al σ ss mem) (mv : Mv B al B' al') (S' : Sit K B' H' al' σ2 ss2 m2) : Sit K B' H' al' σ ss m2 := by
  refine ⟨S'.sub, S.len, fun i r e => ?_, S'.mlen, S'.mem, S'.nd, S'.there⟩
  obtain ⟨v, at_, ok⟩ := S.slot i r e
  exact ⟨v, at_, mv.vl ok⟩
/-- a clause's body appends these data to the list at p; B0, H0, al0: ahead of that list -/
def DBd (K : PySem.W.Frag) (tb : Addr → TB) (ss : Sl) (m : List Mc) (add : List D) : Prop :=
  ∀ (B0 H0 : Hp) (al0 : List Addr) (B H : Hp) (al : List Addr) (σ : L2.St) (p : Addr) (xs : List V) (ds : List D) (fin : Hp → Prop), Stp B0 H0 al0 B H al → H0 p = none → Sit K B H al σ ss m → Side B H al p xs → RepAll K B xs ds → ds.length + add.length ≤ 16777216 →
    (∀ B' H' al' xs', Stp B0 H0 al0 B' H' al' → Mv B al B' al' → Sit K B' H' al' σ ss m → Side B' H' al' p xs' → RepAll K B' xs' (ds ++ add) → fin H') → tb p σ H fin
/-- one turn of a clause -/
def Clause (K : PySem.W.Frag) (g : TG) (vs : List Nat) (tb : Addr → TB) (ss : Sl) (m : List Mc) (d : D) (add : List D) : Prop :=
  ∃ s1 ws, DG K g (wipeS ss vs) d s1 ws ∧ (∀ w ∈ ws, w ∈ vs) ∧ DBd K tb s1 m add
theorem wiped_same {τ τ' : L2.St} {us : List Nat} (h : wipe τ' us = wipe (wipe τ us) us) : wipe τ' us = wipe τ us := by
  refine h.trans (List.ext_getElem? fun j => ?_)
  by_cases hj : j ∈ us
  · rw [wipe_in hj, wipe_in hj, wipe_length]
  · exact wipe_out hj
theorem dwk {J : It} (step : ∀ i, i < n → Clause K g vs tb ss m (it i) (f i)) {B0 H0 B H : Hp} {al0 al : List Addr} {σ : L2.St} {p : Addr} {xs : List V} {ds : List D} {fin : Hp → Prop} (wk : Walks K B J n it) (P0 : Stp B0 H0 al0 B H al) (np : H0 p = none)
    (S : Sit K B H al σ ss m) (sd : Side B H al p xs) (ra : RepAll K B xs ds) (few : ds.length + ((List.range n).flatMap f).length ≤ 16777216)
    (k : ∀ B' H' al' xs', Stp B0 H0 al0 B' H' al' → Mv B al B' al' → Sit K B' H' al' σ ss m → Side B' H' al' p xs' → RepAll K B' xs' (ds ++ (List.range n).flatMap f) → fin H') : tWk J g vs (tb p) σ H fin := by
  have upto : ∀ i, (List.range (i + 1)).flatMap f = (List.range i).flatMap f ++ f i := fun i => by rw [List.range_succ, List.flatMap_append]; simp
  have part : ∀ i, i ≤ n → ((List.range i).flatMap f).length ≤ ((List.range n).flatMap f).length := fun i hi => by
    have e : List.range n = List.range i ++ (List.range (n - i)).map (i + ·) := by
      rw [← List.range_add]
      congr 1
      omega
    rw [e, List.flatMap_append, List.length_append]
    exact Nat.le_add_right _ _
  refine ⟨fun i q h => q = n - i ∧ i ≤ n ∧ ∃ B' al' xs', Stp B0 H0 al0 B' h al' ∧ Mv B al B' al' ∧ Sit K B' h al' σ ss m ∧ Side B' h al' p xs' ∧ RepAll K B' xs' (ds ++ (List.range i).flatMap f), ⟨n, by simp, Nat.zero_le _, B, al, xs, P0, Mv.refl _ _, S, sd, by simpa using ra⟩, ?_⟩
  rintro i q h ⟨rfl, le, B1, al1, xs1, P1, mv, S1, sd1, ra1⟩
  obtain ⟨w1, w2⟩ := wk B1 h al1 (wipe σ vs) _ _ mv.same (S1.wipe vs)
  by_cases lt : i < n
  case neg =>
    have e : i = n := by omega
    subst e
    exact .inl ⟨w2 _ (Nat.le_refl _), k _ _ _ _ P1 mv S1 sd1 ra1⟩
  obtain ⟨go, yl⟩ := w1 i lt
  obtain ⟨s1, ws, dg, inn, body⟩ := step i lt
  refine .inr ⟨go, fun h2 => ∃ B' al' xs', Stp B0 H0 al0 B' h2 al' ∧ Mv B al B' al' ∧ Sit K B' h2 al' σ ss m ∧ Side B' h2 al' p xs' ∧ RepAll K B' xs' (ds ++ (List.range (i + 1)).flatMap f), fun h2 w => ⟨n - (i + 1), by omega, rfl, lt, w⟩, fun x h2 y => ?_⟩
  obtain ⟨B2, P2, S2, r2⟩ := yl x h2 y
  refine dg B2 h2 al1 _ _ x _ S2 r2 fun τ S3 keeps => ⟨wiped_same (keeps vs inn), ?_⟩
  have room := part (i + 1) lt
  rw [upto, List.length_append] at room
  refine body B0 H0 al0 B2 h2 al1 τ p xs1 _ _ (P1.trans P2) np S3 (sd1.step P2) (RepAll.mono P2.same _ ra1) (by rw [List.length_append]; omega) fun B5 h5 al5 xs5 P5 mv5 S5 sd5 ra5 => ?_
  exact ⟨B5, al5, xs5, P5, (mv.trans P2.mv).trans mv5, S1.backM (P2.mv.trans mv5) S5, sd5, by rw [upto, ← List.append_assoc]; exact ra5⟩
theorem dbd_put (h : DT K te ss m (.dat d) m) : DBd K (fun p => tPut te p) ss m [d] := fun B0 H0 al0 B H al σ p xs ds fin P0 np S sd ra few k =>
  h B H al σ _ S fun B1 H1 al1 v P1 S1 r1 => by
    have sd1 := sd.step P1
    have ra1 := RepAll.mono P1.same _ ra
    refine ⟨xs, sd1.at_, by rw [ra.len, sizeLine_eq]; exact few, ?_⟩
    exact k B1 (upd H1 p (.lst (xs ++ [v]))) al1 (xs ++ [v]) ((P0.trans P1).poke np) P1.mv (S1.poke sd1) ⟨upd_same, sd1.nb, sd1.nal⟩ (ra1.append (.cons r1 .nil))
theorem dbd_in (hi : DI K wi ss m n it m) (step : ∀ i, i < n → Clause K g vs tb ss m (it i) (f i)) : DBd K (fun p => tIn wi g vs (tb p)) ss m ((List.range n).flatMap f) := fun B0 H0 al0 B H al σ p xs ds fin P0 np S sd ra few k =>
  hi B H al σ _ S fun B1 H1 al1 J P1 S1 wk => dwk step wk (P0.trans P1) np S1 (sd.step P1) (RepAll.mono P1.same _ ra) few fun B2 H2 al2 xs2 P2 mv2 S2 sd2 ra2 => k _ _ _ _ P2 (P1.mv.trans mv2) S2 sd2 ra2
theorem dt_lcB (hi : DI K wi ss mem n it m1) (few : ((List.range n).flatMap f).length ≤ 16777216) (step : ∀ i, i < n → Clause K g vs tb ss m1 (it i) (f i)) : DT K (tLcB wi g vs tb) ss mem (.dat (.lst ((List.range n).flatMap f))) m1 := fun B H al σ Q S k =>
  hi B H al σ _ S fun B1 H1 al1 J P1 S1 wk p np => by
    have nb : B1 p = none := S1.sub.free np
    have nal : p ∉ al1 := fun h => S1.there p h np
    refine dwk step wk ((Stp.refl B1 H1 al1).poke np) np (S1.beside nb nal _) ⟨upd_same, nb, nal⟩ .nil (by simpa using few) fun B3 H3 al3 xs3 P3 mv3 S3 sd3 ra3 => ?_
    obtain ⟨P4, S4, r4⟩ := S3.side P3 sd3 np ra3
    exact k _ _ _ _ (P1.trans P4) S4 r4
end
end DL
end
section
set_option Elab.async false
set_option linter.all false
set_option maxRecDepth 100000
/-! != of dicts with tuple keys, their values ints or None -/
namespace DL
open PySem PySem.Spec PyProof.Rows L2
section
variable {P : Program} {w : World} {A : Around} {E : Value → Shared → Prop} {s : Shared} {κ : Type} [DecidableEq κ] {knd : HeapKind P w κ}
inductive PrimV : Value → Prop
  | int (i : Int) (t : Tok) : PrimV (.int i t)
  | non : PrimV .none
def primEq : Value → Value → Bool
  | .int i _, .int j _ => i == j
  | .none, .none => true
  | _, _ => false
theorem primEq_at {A : Around} {s : Shared} {u v : Value} (hu : PrimV u) (hv : PrimV v) : SeqAt.EqAt A s u v (primEq u v) := by
  cases hu with
  | int i t =>
    cases hv with
    | int j t' => exact SeqAt.EqAt.int_int i t j t'
    | non => exact SeqAt.EqAt.int_none i t
  | non =>
    cases hv with
    | int j t' => exact SeqAt.EqAt.none_int j t'
    | non => exact SeqAt.EqAt.same .none
/-- what the ints at the keys say of the i-th pair of the first -/
def hitP (xs ys : List (κ × Addr × Value)) (i : Nat) : Bool := match xs[i]? with
  | some x => (match atKey ys x.1 with
    | some y => primEq x.2.2 y.2
    | none => false)
  | none => false
theorem pairs_sameP {nm : String} {a b : Addr} {xs ys : List (κ × Addr × Value)} {Q : Bool → Shared → Prop} (la : (a == sysModules) = false) (lb : (b == sysModules) = false) (hu : knd.room A) (da : s.heap.DictOfH knd a xs) (db : s.heap.DictOfH knd b ys)
    (ix : ∀ x ∈ xs, PrimV x.2.2) (iy : ∀ y ∈ ys, PrimV y.2.2) (fin : ∀ r, (r = true ↔ xs.length = ys.length ∧ ∀ i < xs.length, hitP xs ys i = true) → Q r s) : wpAny (model P w) A (Builtin.Dict.samePairs nm a b) Q E s := by
  obtain ⟨oa, ea, pa, ga, -, ta, na, ka, -⟩ := da
  obtain ⟨ob, eb, pb, gb, -, tb, nb, kb, ndb⟩ := db
  have sa : ea.size = xs.length := size_of_entries na
  have sb : eb.size = ys.length := size_of_entries nb
  unfold Builtin.Dict.samePairs
  unfold Builtin.Dict.showsAll
  rw [la, lb]
  refine wpAny_bind (wpAny_pure (wpAny_bind (wpAny_pure (wpAny_bind (wpAny_dictEntries ga ta ?_)))))
  dsimp only
  refine wpAny_bind (wpAny_dictEntries gb tb ?_)
  by_cases sz : ea.size = eb.size
  case neg =>
    rw [if_pos (by simpa using sz)]
    refine wpAny_bind (wpAny_rule (wpAny_pure (fin false ⟨(fun z => nomatch z), fun z => absurd z.1 (by rw [← sa, ← sb]; exact sz)⟩)))
  case pos =>
    rw [if_neg (by simp [sz])]
    refine wpAny_bind (wpAny_dictEpoch ga ta (wpAny_bind ?_))
    rw [Std.Legacy.Range.forIn_eq_forIn_range']
    simp only [Nat.div_one, Nat.add_sub_cancel, Nat.sub_zero, Std.Legacy.Range.size]
    refine wpAny_forIn_list _ (fun rest acc s' => s' = s ∧ acc = (none, ()) ∧ ∃ i, rest = List.range' i (ea.size - i) ∧ i ≤ ea.size ∧ ∀ j < i, hitP xs ys j = true) _ ?_ ?_ _ _ ⟨rfl, rfl, 0, rfl, Nat.zero_le _, fun j z => absurd z (Nat.not_lt_zero j)⟩
    · rintro i rest acc s' ⟨rfl, rfl, i', er, le, so⟩
      have lt : i' < ea.size := Decidable.byContradiction fun z => by
        rw [show ea.size - i' = 0 by omega] at er
        exact absurd er (by simp)
      rw [show ea.size - i' = ea.size - (i' + 1) + 1 by omega, List.range'_succ] at er
      obtain ⟨rfl, rfl⟩ := List.cons.inj er
      have lx : i < xs.length := by omega
      obtain ⟨⟨k, c, u⟩, ex⟩ : ∃ x, xs[i]? = some x := ⟨_, List.getElem?_eq_getElem lx⟩
      have mx := List.mem_of_getElem? ex
      have pu := ix _ mx
      refine wpAny_bind (wpAny_dictEntries ga ta ?_)
      rw [entry_at na i, ex]
      have bad : hitP xs ys i = false → Q false s' := fun z => fin false ⟨(fun y => nomatch y), fun y => absurd (y.2 i lx) (by rw [z]; exact Bool.false_ne_true)⟩
      show wpAny _ _ (holding [Value.ref c, u] _ >>= _) _ _ _
      refine wpAny_bind (wpAny_holding (wpAny_bind (wpAny_dictFind_heap hu (ka _ mx) gb tb nb kb ndb (fun miss => ?_) fun j p ej => ?_)))
      · refine wpAny_pure ?_
        show wpAny _ _ (ite ((!false) = true) _ _) _ _ _
        rw [if_pos (by decide)]
        refine wpAny_pure (wpAny_pure (bad ?_))
        unfold hitP
        rw [ex]
        show (match atKey ys k with | some y => _ | none => false) = false
        rw [atKey_none_of_get miss]
      · refine wpAny_bind (wpAny_dictEntries gb tb ?_)
        rw [entry_at nb j, ej]
        have pv := iy _ (List.mem_of_getElem? ej)
        have hit : hitP xs ys i = primEq u p.2 := by
          unfold hitP
          rw [ex]
          show (match atKey ys k with | some y => _ | none => false) = _
          rw [atKey_of_get ndb ej]
        refine wpAny_holding (primEq_at pu pv P w _ _ ?_)
        cases q : primEq u p.2 with
        | false =>
          show wpAny _ _ (ite ((!false) = true) _ _) _ _ _
          rw [if_pos (by decide)]
          exact wpAny_pure (wpAny_pure (bad (hit.trans q)))
        | true =>
          show wpAny _ _ (ite ((!true) = true) _ _) _ _ _
          rw [if_neg (by decide)]
          refine wpAny_bind (wpAny_dictEpoch ga ta ?_)
          rw [if_neg (by simp)]
          refine wpAny_pure ⟨rfl, rfl, i + 1, rfl, lt, fun j hj => ?_⟩
          rcases Nat.lt_succ_iff_lt_or_eq.mp hj with z | z
          · exact so j z
          · rw [z, hit, q]
    · rintro acc s' ⟨rfl, rfl, i, er, le, so⟩
      have ei : i = ea.size := Decidable.byContradiction fun z => by
        rw [show ea.size - i = ea.size - (i + 1) + 1 by omega, List.range'_succ] at er
        exact absurd er (by simp)
      subst ei
      exact wpAny_pure (fin true ⟨fun _ => ⟨by omega, fun i hi => so i (by omega)⟩, fun _ => rfl⟩)
end
section
variable {X : Cx}
def PrimD (v : V) : Prop := v = .non ∨ ∃ i, v = .int i
/-- d != e -/
def rNeDT : R2 := fun x y H Q => ∃ (a b : Addr) (ks ls : List (List L2.Key × V)), x = .ref a ∧ y = .ref b ∧ Rd H a (.dT ks) ∧ Rd H b (.dT ls) ∧ (∀ p ∈ ks, PrimD p.2) ∧ (∀ p ∈ ls, PrimD p.2) ∧
  ∀ r, (r = true ↔ ks.length = ls.length ∧ ∀ p ∈ ks, valV ls p.1 = some p.2) → Q (.bl (!r)) H
theorem prim_rel {v : V} {u : Value} (h : PrimD v) (r : RelV v u) : PrimV u := by
  rcases h with rfl | ⟨i, rfl⟩
  · cases r
    exact .non
  · obtain ⟨t, e⟩ := r
    exact e ▸ .int i t
theorem prim_eq {v v' : V} {u u' : Value} (h : PrimD v) (h' : PrimD v') (r : RelV v u) (r' : RelV v' u') : primEq u u' = decide (v = v') := by
  rcases h with rfl | ⟨i, rfl⟩ <;> rcases h' with rfl | ⟨j, rfl⟩
  · cases r
    cases r'
    rfl
  · cases r
    obtain ⟨t, rfl⟩ := r'
    simp [primEq]
  · cases r'
    obtain ⟨t, rfl⟩ := r
    simp [primEq]
  · obtain ⟨t, rfl⟩ := r
    obtain ⟨t', rfl⟩ := r'
    rw [show primEq (.int i t) (.int j t') = (i == j) from rfl, Bool.eq_iff_iff]
    simp
theorem KT.prims {H : Hp} {kvs : List (List L2.Key × V)} {xs : List (List L2.Key × Addr × Value)} (r : KT H kvs xs) (h : ∀ p ∈ kvs, PrimD p.2) : ∀ x ∈ xs, PrimV x.2.2 := by
  induction r with
  | nil => exact fun _ z => nomatch z
  | @cons p q ps qs a t ih =>
    intro x hx
    rcases List.mem_cons.mp hx with z | z
    · exact z ▸ prim_rel (h p List.mem_cons_self) a.2.2
    · exact ih (fun p hp => h p (List.mem_cons_of_mem _ hp)) x z
theorem op_neDT (hu : X.A.units + 1 < cLine) : OpR X (compareOp .NotEq) rNeDT := by
  rintro pins s σ H x y v u Q I rx ry ⟨a, b, ks, ls, rfl, rfl, ra, rb, ik1, il1, fin⟩
  cases rx
  cases ry
  obtain ⟨_, la, xs, ka, da⟩ := dt_rd I.hok ra
  obtain ⟨_, lb, ys, kb, db⟩ := dt_rd I.hok rb
  refine wpAny_richCompare_same_room (op := .NotEq) da.typeIs db.typeIs PySem.F.slot_dict_ne (wpAny_call_entry PySem.F.slot_dict_ne da.typeIs PySem.F.entry_dict_ne ?_ (PySem.F.args_dict_ne_2 _ _)) (Nat.lt_of_succ_lt hu)
  change wpAny _ _ (Bind.bind (Builtin.Dict.dictSlotArgs "__ne__" ⟨[.ref a, .ref b], []⟩) _) _ _ s
  unfold Builtin.Dict.dictSlotArgs
  refine wpAny_bind (wpAny_bind (wpAny_notOrdered_dict da.typeIs (wpAny_pure ?_)))
  refine wpAny_bind (wpAny_isInstance (b := true) (T := "dict") db.typeIs PySem.F.sub_dict_dict ?_)
  simp only [if_false, Bool.false_eq_true, Bool.not_true]
  refine wpAny_bind (wpAny_pure (wpAny_bind (wpAny_pure (wpAny_bind (pairs_sameP la lb hu da db (KT.prims ka ik1) (KT.prims kb il1) fun r hr => wpAny_pure ⟨_, rfl, (fun z => nomatch z), ?_⟩)))))
  have l1 : ks.length = xs.length := Paired.length ka
  have l2 : ls.length = ys.length := Paired.length kb
  have said : ∀ i p, ks[i]? = some p → ∃ x, xs[i]? = some x ∧ (hitP xs ys i = true ↔ valV ls p.1 = some p.2) := fun i p hi => by
    obtain ⟨x, hx, ex, rx⟩ := KT.nth ka i p hi
    refine ⟨x, hx, ?_⟩
    have rel := kb.val p.1
    have eh : hitP xs ys i = (match atKey ys p.1 with | some y => primEq x.2.2 y.2 | none => false) := by
      unfold hitP
      rw [hx, ← ex]
    rw [eh]
    cases q : atKey ys p.1 with
    | none =>
      rw [q] at rel
      cases q2 : valV ls p.1 with
      | none => exact ⟨(fun z => nomatch z), fun z => nomatch z⟩
      | some v =>
        rw [q2] at rel
        exact rel.elim
    | some y =>
      rw [q] at rel
      cases q2 : valV ls p.1 with
      | none =>
        rw [q2] at rel
        exact rel.elim
      | some v =>
        rw [q2] at rel
        obtain ⟨p2, mem, e2⟩ : ∃ p2 ∈ ls, p2.2 = v := by
          unfold valV at q2
          obtain ⟨p2, e1, e2⟩ := Option.map_eq_some_iff.mp q2
          exact ⟨p2, List.mem_of_find?_eq_some e1, e2⟩
        have rel' : RelV v y.2 := rel
        have pe := prim_eq (ik1 p (List.mem_of_getElem? hi)) (e2 ▸ il1 p2 mem) rx rel'
        show (primEq x.2.2 y.2 = true) ↔ _
        rw [pe, decide_eq_true_iff]
        exact ⟨fun z => by rw [z], fun z => (Option.some.inj z).symm⟩
  refine ⟨.bl (!r), H, I, (by cases r <;> rfl), fin r (hr.trans ⟨fun z => ⟨by omega, fun p hp => ?_⟩, fun z => ⟨by omega, fun i hi => ?_⟩⟩)⟩
  · obtain ⟨i, hi⟩ := List.mem_iff_getElem?.mp hp
    obtain ⟨x, hx, iff⟩ := said i p hi
    exact iff.mp (z.2 i (List.getElem?_eq_some_iff.mp hx).1)
  · obtain ⟨p, hp⟩ : ∃ p, ks[i]? = some p := ⟨_, List.getElem?_eq_getElem (by omega)⟩
    obtain ⟨x, hx, iff⟩ := said i p hp
    exact iff.mpr (z.2 p (List.mem_of_getElem? hp))
end
def PrimO (d : D) : Prop := d = .non ∨ ∃ i, d = .int i
def primV : D → V
  | .int i => .int i
  | _ => .non
section
variable {K : PySem.W.Frag} {ss : Sl} {mem m1 m2 : List Mc} {ta tb te : TE} {x y : Vl} {m n : List (List Int × D)} {ds : List D} {i : Int}
theorem kv_prims {B : Hp} : ∀ {m : List (List Int × D)} {kvs : List (List L2.Key × V)}, (∀ p ∈ m, PrimO p.2) → RepKv K B kvs m → kvs = m.map fun p => (ik p.1, primV p.2)
  | [], _, _, h => by cases h; rfl
  | p :: m, _, all, h => by
    obtain ⟨k, d⟩ := p
    cases h with
    | cons h1 h2 =>
      rw [List.map_cons, kv_prims (fun q hq => all q (List.mem_cons_of_mem _ hq)) h2]
      rcases all _ List.mem_cons_self with e | ⟨i, e⟩
      · have e : d = .non := e
        subst e
        cases h1
        rfl
      · have e : d = .int i := e
        subst e
        cases h1
        rfl
theorem primV_prim (d : D) : PrimD (primV d) := by
  cases d <;> first | exact .inr ⟨_, rfl⟩ | exact .inl rfl
theorem valV_prims (k : List Int) : ∀ m : List (List Int × D), valV (m.map fun p => (ik p.1, primV p.2)) (ik k) = (getI m k).map primV
  | [] => rfl
  | p :: m => by
    show valV ((ik p.1, primV p.2) :: _) (ik k) = (if p.1 = k then some p.2 else getI m k).map primV
    by_cases e : p.1 = k
    · rw [if_pos e, valV_pos (congrArg ik e)]
      rfl
    · rw [if_neg e, valV_neg fun z => e (ik_inj z)]
      exact valV_prims k m
/-- d != e: r says whether they are the same -/
theorem dt_neDic {r : Bool} (ha : DT K ta ss mem x m1) (hb : DT K tb ss m1 y m2) (da : IsDic m2 x m) (db : IsDic m2 y n) (pm : ∀ p ∈ m, PrimO p.2) (pn : ∀ p ∈ n, PrimO p.2)
    (hr : r = true ↔ m.length = n.length ∧ ∀ p ∈ m, (getI n p.1).map primV = some (primV p.2)) : DT K (tOp rNeDT ta tb) ss mem (.dat (.bl (!r))) m2 :=
  dt_op ha hb fun B H al σ v w Q S hv hw k => by
    obtain ⟨a, ks, rfl, ra, ka⟩ := dic_at S hv da
    obtain ⟨b, ls, rfl, rb, kb⟩ := dic_at S hw db
    obtain rfl := kv_prims pm ka
    obtain rfl := kv_prims pn kb
    have small : ∀ (m : List (List Int × D)), ∀ p ∈ m.map (fun p => (ik p.1, primV p.2)), PrimD p.2 := fun m p hp => by
      obtain ⟨q, -, rfl⟩ := List.mem_map.mp hp
      exact primV_prim _
    refine ⟨a, b, _, _, rfl, rfl, ra, rb, small m, small n, fun r2 hr2 => ?_⟩
    have same : r2 = true ↔ r = true := by
      rw [hr2, hr, List.length_map, List.length_map]
      refine and_congr_right fun _ => ⟨fun h p hp => ?_, fun h p hp => ?_⟩
      · have z := h (ik p.1, primV p.2) (List.mem_map.mpr ⟨p, hp, rfl⟩)
        rw [valV_prims] at z
        exact z
      · obtain ⟨q, hq, rfl⟩ := List.mem_map.mp hp
        rw [valV_prims]
        exact h q hq
    rw [Bool.eq_iff_iff.mpr same]
    exact k _ _ _ _ (Stp.refl _ _ _) S (.bl _)
/-- d != {} -/
theorem dt_neNil (ha : DT K ta ss mem x m1) (hb : DT K tb ss m1 (.dat (.dic [])) m2) (da : IsDic m2 x m) (pm : ∀ p ∈ m, PrimO p.2) : DT K (tOp rNeDT ta tb) ss mem (.dat (.bl (!decide (m = [])))) m2 :=
  dt_neDic ha hb da .dat pm (fun p hp => (List.not_mem_nil hp).elim) (by
    rw [decide_eq_true_iff]
    refine ⟨fun e => ⟨by rw [e], fun p hp => by rw [e] at hp; exact (List.not_mem_nil hp).elim⟩, fun h => List.length_eq_zero_iff.mp h.1⟩)
/-- xs[::-1], a list in the heap -/
theorem dt_revR (h : DT K te ss mem (.dat (.lst ds)) m1) : DT K (tRevL K te) ss mem (.dat (.rls ds.reverse)) m1 := fun B H al σ Q S k =>
  h B H al σ _ S fun B1 H1 al1 v P1 S1 r1 => by
    cases r1 with
    | @lst a xs _ s r =>
      refine ⟨a, xs, rfl, S1.seqL s, fun p np => ?_⟩
      obtain ⟨P3, S3⟩ := S1.lay (o := .lst xs.reverse) np
      exact k _ _ _ _ (P1.trans P3) S3 (.rls upd_same (RepAll.mono P3.same _ r.reverse))
theorem RepAll.times {B : Hp} {vs : List V} (h : RepAll K B vs ds) : ∀ j : Nat, RepAll K B (List.replicate j vs).flatten (List.replicate j ds).flatten
  | 0 => .nil
  | j + 1 => by
    have z := h.append (RepAll.times h j)
    simpa only [List.replicate_succ, List.flatten_cons] using z
/-- xs * k -/
theorem dt_times {k : Int} (ha : DT K ta ss mem (.dat (.rls ds)) m1) (hb : DT K tb ss m1 (.dat (.int k)) m2) (h0 : 0 ≤ k) (h1 : k ≤ 1000) (h2 : ds.length * k.toNat ≤ 16777216) : DT K (tOp rRep ta tb) ss mem (.dat (.rls (List.replicate k.toNat ds).flatten)) m2 :=
  dt_op ha hb fun B H al σ v w Q S hv hw q => by
    cases hv with
    | @rls a xs _ a2 a3 =>
      cases hw
      refine ⟨a, k, xs, rfl, rfl, S.sub _ _ a2, by omega, by omega, by rw [a3.len, sizeLine_eq]; exact h2, fun p np => ?_⟩
      obtain ⟨P3, S3⟩ := S.lay (o := .lst (List.replicate k.toNat xs).flatten) np
      exact q _ _ _ _ P3 S3 (.rls upd_same (RepAll.mono P3.same _ (a3.times k.toNat)))
end
/-- all rows of three small ints -/
def rows3 : List (List Int) := (List.range 5).flatMap fun p : Nat => (List.range 3).flatMap fun h : Nat => (List.range 5).map fun l : Nat => [(p : Int), (h : Int), (l : Int)]
theorem rows3_apart : (rows3.map rowHash).Nodup := by decide +kernel
theorem apart3_of {m : List (List Int × D)} (nd : (m.map (·.1)).Nodup) (inn : ∀ p ∈ m, p.1 ∈ rows3) : (m.map fun p => rowHash p.1).Nodup := by
  have inj : ∀ a ∈ rows3, ∀ b ∈ rows3, rowHash a = rowHash b → a = b := fun a ha b hb e => by
    obtain ⟨i, hi, rfl⟩ := List.mem_iff_getElem.mp ha
    obtain ⟨j, hj, rfl⟩ := List.mem_iff_getElem.mp hb
    have hij : i = j := (List.getElem?_inj (l := rows3.map rowHash) (by rw [List.length_map]; exact hi) rows3_apart).mp (by
      rw [List.getElem?_map, List.getElem?_map, List.getElem?_eq_getElem hi, List.getElem?_eq_getElem hj]
      exact congrArg some e)
    subst hij
    rfl
  have e : (m.map fun p => rowHash p.1) = (m.map (·.1)).map rowHash := by rw [List.map_map]; rfl
  rw [e]
  have all : ∀ k ∈ m.map (·.1), k ∈ rows3 := fun k hk => by
    obtain ⟨p, hp, rfl⟩ := List.mem_map.mp hk
    exact inn p hp
  generalize m.map (·.1) = ks at nd all
  exact List.pairwise_map.mpr (nd.imp_of_mem fun ha hb ne z => ne (inj _ (all _ ha) _ (all _ hb) z))
end DL
end
section
set_option Elab.async false
set_option linter.all false
set_option maxRecDepth 100000
/-! min(xs, default=None), xs a list of ints -/
namespace DL
open PySem PySem.Spec PyProof.Rows L2
def rMinDf (K : PySem.W.Frag) : List V → List V → Hp → VK → Prop := fun vs zs H Q => ∃ (a : Addr) (ns : List Int), vs = [V.ref a] ∧ zs = [.non] ∧ SqL K H a (ns.map V.int) ∧ (ns = [] → Q .non H) ∧ ∀ m, m ∈ ns → (∀ y ∈ ns, m ≤ y) → Q (.int m) H
theorem ints_reads {h : Heap} : ∀ {vs : List Value} {ns : List Int}, IntsAre vs ns → ReadsAll h vs (ns.map .int) [] := by
  intro vs ns hi
  induction hi with
  | nil => exact .nil
  | cons a t r ih => exact .cons (.int a t) ih
theorem foldl_min_in : ∀ (ns : List Int) (n : Int), ns.foldl min n ∈ n :: ns ∧ ∀ y ∈ n :: ns, ns.foldl min n ≤ y
  | [], n => ⟨List.mem_cons_self, fun y hy => by rw [List.mem_singleton.mp hy]; exact Int.le_refl _⟩
  | x :: ns, n => by
    obtain ⟨a, b⟩ := foldl_min_in ns (min n x)
    rw [List.foldl_cons]
    have low : ns.foldl min (min n x) ≤ min n x := b _ List.mem_cons_self
    refine ⟨?_, fun y hy => ?_⟩
    · rcases List.mem_cons.mp a with e | m
      · rw [e]
        rcases Int.le_total n x with q | q
        · rw [Int.min_eq_left q]; exact List.mem_cons_self
        · rw [Int.min_eq_right q]; exact List.mem_cons_of_mem _ List.mem_cons_self
      · exact List.mem_cons_of_mem _ (List.mem_cons_of_mem _ m)
    · rcases List.mem_cons.mp hy with e | hy
      · rw [e]; exact Int.le_trans low (Int.min_le_left ..)
      rcases List.mem_cons.mp hy with e | hy
      · rw [e]; exact Int.le_trans low (Int.min_le_right ..)
      · exact b y (List.mem_cons_of_mem _ hy)
theorem cr_minDf {X : Cx} (hc : X.calm = true) (hu : X.A.units + 64 < cLine) : CallRK X (.builtin "min") [Str.ofString "default"] (rMinDf X.K) := by
  intro pins s σ H vs zs us ws Q I r rz h
  obtain ⟨a, ns, rfl, rfl, hs, q0, q⟩ := h
  obtain rfl := Vals.ref1 r
  obtain ⟨w1, rfl, e1⟩ := vals1 rz
  obtain rfl : w1 = Value.none := e1
  obtain ⟨its, rv, hl, -⟩ := I.list hs
  have hi := rv.ints
  have depth : PyData.depthAll (ns.map PyData.int) ≤ 1 := by
    clear q0 q hs rv hi hl
    induction ns with
    | nil => exact Nat.zero_le _
    | cons n ns ih => exact Nat.max_le.mpr ⟨by show 0 ≤ 1; decide, ih⟩
  refine PySem.W.min_list_default (xs := ns.map .int) (I.ok.hd hc) hl.isList (by simpa using ints_reads hi) ⟨fun x hx y hy => ?_, fun x hx => ?_⟩ (by omega) (fun e h' tk k => ?_) (fun y ys i v h' tk bs e at_ rd k => ?_)
  · obtain ⟨i, -, rfl⟩ := List.mem_map.mp hx
    obtain ⟨j, -, rfl⟩ := List.mem_map.mp hy
    rfl
  · obtain ⟨i, -, rfl⟩ := List.mem_map.mp hx
    exact fun z => by cases z
  · exact ⟨.non, H, I.kept k, rfl, q0 (List.map_eq_nil_iff.mp e)⟩
  · cases ns with
    | nil => cases e
    | cons n ns =>
      obtain ⟨rfl, rfl⟩ := List.cons.inj e
      rw [PySem.W.minD_ints] at rd
      obtain ⟨m, b⟩ := foldl_min_in ns n
      generalize ns.foldl min n = z at rd m b
      cases rd with
      | int z t => exact ⟨.int z, H, I.kept k, ⟨t, rfl⟩, q z m b⟩
section
variable {K : PySem.W.Frag} {ss : Sl} {mem m1 : List Mc} {te : TE} {ns : List Int}
def leastO : List Int → Option Int
  | [] => none
  | n :: ns => some (ns.foldl min n)
theorem dt_minDf (h : DT K te ss mem (.dat (.lst (ns.map .int))) m1) : DT K (tCKw (rMinDf K) (tCons te tNil) (tCons (tC .non) tNil)) ss mem (.dat (match leastO ns with | some m => .int m | none => .non)) m1 := fun B H al σ Q S k =>
  h B H al σ _ S fun B1 H1 al1 v P1 S1 r1 => by
    cases r1 with
    | @lst a xs _ s r =>
      obtain rfl := r.ints
      refine ⟨a, ns, rfl, rfl, S1.seqL s, fun e => ?_, fun m inn low => ?_⟩
      · subst e
        exact k _ _ _ _ P1 S1 .non
      · cases ns with
        | nil => cases inn
        | cons n ns =>
          obtain ⟨b1, b2⟩ := foldl_min_in ns n
          have e : m = ns.foldl min n := Int.le_antisymm (low _ b1) (b2 _ inn)
          subst e
          exact k _ _ _ _ P1 S1 (.int _)
end
theorem crMinDf {X : Cx} (K : PySem.W.Frag) (hu : X.A.units + 64 < cLine) (hc : X.calm = true := by rfl) (h : X.K = K := by rfl) : CallRK X (.builtin "min") [Str.ofString "default"] (rMinDf K) := h ▸ cr_minDf hc hu
end DL
end
section
set_option Elab.async false
set_option linter.all false
set_option maxRecDepth 100000
/-! calls of a def whose dict may be data or an own object; comprehensions with any target and a test -/
namespace DL
open PySem PySem.Spec PyProof.Rows L2
section
variable {K : PySem.W.Frag} {ss : Sl} {mem m1 : List Mc} {d : D} {R : Rel} {E : XK} {t : TA} {n p : Nat}
theorem dt_callP {ds : List D} (h : DA K t ss mem ds m1) (hR : R (ds.map Vl.dat) [] d []) (hn : ds.length = n := by rfl) : DT K (tCall (spD K n R) [] E t) ss mem (.dat d) m1 := fun B H al σ Q S k =>
  h B H al σ _ S fun B1 H1 al1 vs P1 S1 r1 => by
    refine ⟨B1, [], ds.map Vl.dat, [], d, [], hR, by rw [List.length_map]; exact hn, rfl, ?_, fun B2 H2 v P2 S2 rv => ?_⟩
    · rw [List.append_nil]
      exact pack_slots S1.sub r1
    · obtain ⟨P3, S3⟩ := S1.after P2 S2.sub
      exact k _ _ _ _ (P1.trans P3) S3 rv
theorem dt_callD {rs : List Vl} {m m' : Mc} (h : DAV K t ss mem rs m1) (ho : ∀ q ∈ rs, (∃ d, q = .dat d) ∨ q = .own p) (hm : m1[p]? = some m) (hR : R (rs.map re0) [m] d [m']) (hn : rs.length = n := by rfl) :
    DT K (tCall (spD K n R) [] E t) ss mem (.dat d) (m1.set p m') := fun B H al σ Q S k =>
  h B H al σ _ S fun B1 H1 al1 vs P1 S1 rv => by
    have lt : p < al1.length := S1.mlen ▸ (List.getElem?_eq_some_iff.mp hm).1
    obtain ⟨a, at_⟩ : ∃ a, al1[p]? = some a := ⟨_, List.getElem?_eq_getElem lt⟩
    have slots : Sit K B1 H1 [a] (vs.map some) ((rs.map re0).map some) [m] := by
      refine ⟨S1.sub, by simp only [List.length_map]; exact rv.len, fun i q e => ?_, rfl, fun l c w e1 e2 => ?_, List.pairwise_singleton _ _, fun c hc => List.mem_singleton.mp hc ▸ S1.there a (List.mem_of_getElem? at_)⟩
      · simp only [List.getElem?_map, Option.map_eq_some_iff] at e
        obtain ⟨_, ⟨q0, e0, rfl⟩, e2⟩ := e
        cases Option.some.inj e2
        obtain ⟨v, v1, v2⟩ := rv.get e0
        refine ⟨v, by rw [List.getElem?_map, v1]; rfl, ?_⟩
        rcases ho q0 (List.mem_of_getElem? e0) with ⟨_, rfl⟩ | rfl
        · exact v2
        · obtain ⟨x, x1, x2⟩ := v2
          exact ⟨a, rfl, x2.trans (congrArg V.ref (Option.some.inj (x1.symm.trans at_)))⟩
      · match l, e1, e2 with
        | 0, e1, e2 => exact Option.some.inj e1 ▸ Option.some.inj e2 ▸ S1.mem p a m at_ hm
    refine ⟨B1, [a], rs.map re0, [m], d, [m'], hR, by rw [List.length_map]; exact hn, rfl, by rw [List.append_nil]; exact slots, fun B2 H2 v P2 S2 rd => ?_⟩
    obtain ⟨P3, S3⟩ := S1.after1 at_ P2 S2.sub (S2.mem 0 a m' rfl rfl)
    exact k _ _ _ _ (P1.trans P3) S3 rd
end
section
variable {K : PySem.W.Frag} {ss : Sl} {mem m1 : List Mc} {te tx : TE} {tt : TT} {g : TG} {vs : List Nat} {α : Type}
theorem lcGF (gd : α → D) (z : α) (l : List α) (h : DT K te ss mem (.dat (.lst (l.map gd))) m1) (few : l.length ≤ 16777216) (q : α → Bool) (v : α → D)
    (step : ∀ x ∈ l, ∃ s1 ws, DG K g (wipeS ss vs) (gd x) s1 ws ∧ (∀ w ∈ ws, w ∈ vs) ∧ DB K tt s1 m1 (q x) m1 ∧ (q x = true → DT K tx s1 m1 (.dat (v x)) m1)) : DT K (tLc (iList K te) g tt tx vs) ss mem (.dat (.lst ((l.filter q).map v))) m1 := by
  rw [← range_filter z q v l]
  refine dt_lcIf (di_map gd l h) (fun i => v (l.getD i z)) (fun i => q (l.getD i z)) few fun i hi => ?_
  rw [nthD_map gd hi z]
  exact step _ (getD_in hi z)
theorem lcG0 (gd : α → D) (z : α) (l : List α) (h : DT K te ss mem (.dat (.lst (l.map gd))) m1) (few : l.length ≤ 16777216) (v : α → D)
    (step : ∀ x ∈ l, ∃ s1 ws, DG K g (wipeS ss vs) (gd x) s1 ws ∧ (∀ w ∈ ws, w ∈ vs) ∧ DT K tx s1 m1 (.dat (v x)) m1) : DT K (tLc (iList K te) g tYes tx vs) ss mem (.dat (.lst (l.map v))) m1 := by
  have e := lcGF (K := K) (tt := tYes) gd z l h few (fun _ => true) v fun x hx => by
    obtain ⟨s1, ws, a, b, c⟩ := step x hx
    exact ⟨s1, ws, a, b, db_yes, fun _ => c⟩
  rw [List.filter_eq_self.mpr fun _ _ => rfl] at e
  exact e
theorem dt_lcIfT {wi : TI} {n : Nat} {it : Nat → D} (hi : DI K wi ss mem n it m1) (f : Nat → D) (p : Nat → Bool) (few : n < 16777216)
    (step : ∀ i, i < n → ∃ s1 ws, DG K g (wipeS ss vs) (it i) s1 ws ∧ (∀ w ∈ ws, w ∈ vs) ∧ DB K tt s1 m1 (p i) m1 ∧ (p i = true → DT K tx s1 m1 (.dat (f i)) m1)) :
    DT K (tLc wi g tt tx vs) ss mem (.tl (((List.range n).filter p).map f)) m1 := by
  have r := dt_lcT (te := tx) (tt := tt) (vs := vs) (g := g) hi (fun i => ((List.range i).filter p).map f) (fun _ => m1) rfl rfl (fun i lt => by
    have z := List.length_filter_le p (List.range i)
    rw [List.length_range] at z
    rw [List.length_map]
    omega) fun i lt => by
    obtain ⟨s1, ws, a, b, c, e⟩ := step i lt
    refine ⟨s1, ws, a, b, ?_⟩
    have up : ((List.range (i + 1)).filter p).map f = ((List.range i).filter p).map f ++ ([i].filter p).map f := by rw [List.range_succ, List.filter_append, List.map_append]
    cases y : p i with
    | true =>
      rw [y] at c
      exact .inl ⟨m1, f i, c, e y, by rw [up]; simp [y]⟩
    | false =>
      rw [y] at c
      exact .inr ⟨c, by rw [up]; simp [y]⟩
  exact r
/-- .. its list tracked -/
theorem lcGFT (gd : α → D) (z : α) (l : List α) (h : DT K te ss mem (.dat (.lst (l.map gd))) m1) (few : l.length < 16777216) (q : α → Bool) (v : α → D)
    (step : ∀ x ∈ l, ∃ s1 ws, DG K g (wipeS ss vs) (gd x) s1 ws ∧ (∀ w ∈ ws, w ∈ vs) ∧ DB K tt s1 m1 (q x) m1 ∧ (q x = true → DT K tx s1 m1 (.dat (v x)) m1)) : DT K (tLc (iList K te) g tt tx vs) ss mem (.tl ((l.filter q).map v)) m1 := by
  rw [← range_filter z q v l]
  refine dt_lcIfT (di_map gd l h) (fun i => v (l.getD i z)) (fun i => q (l.getD i z)) few fun i hi => ?_
  rw [nthD_map gd hi z]
  exact step _ (getD_in hi z)
end
/-- isinstance of another class -/
theorem dt_isiN {K : PySem.W.Frag} {ss : Sl} {mem m1 : List Mc} {te : TE} {C C2 : Addr} {gs : List (Str × D)} (h : DT K te ss mem (.dat (.obj C gs)) m1) (T : ClsT K C) (other : PySem.W.kitOne K (.ref C) (.ref C2) = some false) : DT K (tCB (rIsi K) (tCons te (tCons (tC (.ref C2)) tNil))) ss mem (.dat (.bl false)) m1 := fun B H al σ Q S k =>
  h B H al σ _ S fun B1 H1 al1 v P1 S1 r1 => by
    cases r1 with
    | obj s r => exact ⟨_, .ref C2, .ref C, .ref C2, false, rfl, .own C2, .base (.ins (S1.sub _ _ s) T.cl T.ha T.hn T.htk T.hm), other, k _ _ _ _ P1 S1 (.bl false)⟩
end DL
end
section
set_option Elab.async false
set_option linter.all false
set_option maxRecDepth 100000
/-! min(xs, default=None) and sorted(xs), xs a list of nested data -/
namespace DL
open PySem PySem.Spec PyProof.Rows L2
abbrev alikeD := PySem.W.alike
theorem minD_in (y : PyData) : ∀ ys : List PyData, PySem.W.minD y ys ∈ y :: ys := fun ys => by
  unfold PySem.W.minD
  induction ys generalizing y with
  | nil => exact List.mem_cons_self
  | cons z zs ih =>
    rw [List.foldl_cons]
    have q := ih (if PySem.W.dataLt z y = true then z else y)
    rcases List.mem_cons.mp q with e | q
    · rw [e]
      split
      · exact List.mem_cons_of_mem _ List.mem_cons_self
      · exact List.mem_cons_self
    · exact List.mem_cons_of_mem _ (List.mem_cons_of_mem _ q)
def rMinN (K : PySem.W.Frag) : List V → List V → Hp → VK → Prop := fun vs zs H Q => ∃ (a : Addr) (xs : List V) (ds : List PyData), vs = [V.ref a] ∧ zs = [.non] ∧ SqL K H a xs ∧ DpAll K H xs ds ∧ PySem.W.AlikeAll ds ∧ PyData.depthAll ds ≤ 8 ∧ (ds = [] → Q .non H) ∧ ∀ (y : PyData) (ys : List PyData) (i : Nat) (x : V), ds = y :: ys → xs[i]? = some x → ds[i]? = some (PySem.W.minD y ys) → Q x H
theorem cr_minN {X : Cx} (hc : X.calm = true) (hu : X.A.units + 64 < cLine) : CallRK X (.builtin "min") [Str.ofString "default"] (rMinN X.K) := by
  intro pins s σ H vs zs us ws Q I rv1 rv2 got
  obtain ⟨a, xs, ds, rfl, rfl, hs, hd, al, dp, q0, q⟩ := got
  obtain rfl := Vals.ref1 rv1
  obtain ⟨dflt, rfl, nn⟩ := vals1 rv2
  obtain rfl : dflt = Value.none := nn
  obtain ⟨its, rv, hl, -⟩ := I.list hs
  obtain ⟨as, rd⟩ := Dp.readsAll I ds xs its hd rv
  refine PySem.W.min_list_default (xs := ds) (I.ok.hd hc) hl.isList (by simpa using rd) al (by omega) (fun e h' tk k => ?_) (fun y ys i v h' tk bs e at_ rd' k => ?_)
  · exact ⟨.non, H, I.kept k, rfl, q0 e⟩
  · have at2 : its[i]? = some v := by simpa using at_
    obtain ⟨bs2, r2, lt, inn, -⟩ := PySem.W.readsAll_at rd i v at2
    have r3 : Reads h' v (ds.getD i .none) bs2 := PyProof.Rows.Reads.keeps k r2
    have mn : PySem.W.minD y ys ∈ ds := by rw [e]; exact minD_in y ys
    have eq := PySem.W.alike_unique _ _ _ _ _ (al.1 _ inn _ mn) r3 rd'
    have hx : i < xs.length := by
      have := (List.getElem?_eq_some_iff.mp at2).1
      rw [rv.length]
      exact this
    obtain ⟨v2, at3, rel⟩ := Vals.get rv (List.getElem?_eq_getElem hx)
    obtain rfl : v = v2 := Option.some.inj (at2.symm.trans at3)
    refine ⟨xs[i], H, I.kept k, rel, q y ys i _ e (List.getElem?_eq_getElem hx) ?_⟩
    rw [← eq, List.getElem?_eq_getElem lt, List.getD_eq_getElem?_getD, List.getElem?_eq_getElem lt]
    rfl
def rSortN (K : PySem.W.Frag) : List V → Hp → VK → Prop := fun vs H Q => ∃ (a : Addr) (zs : List (V × PyData)), vs = [V.ref a] ∧ SqL K H a (zs.map (·.1)) ∧ DpAll K H (zs.map (·.1)) (zs.map (·.2)) ∧ PySem.W.AllAlike (zs.map (·.2)) ∧ PySem.W.Sortable (zs.map (·.2)) ∧ (∀ z ∈ zs, z.2.depth ≤ 8) ∧
  ∀ p, H p = none → Q (.ref p) (upd H p (.lst ((zs.mergeSort (PySem.W.dataLe false fun z => z.2)).map (·.1))))
theorem each_of {h : Heap} : ∀ {zs : List (V × PyData)} {us : List Value} {as : List Addr}, Vals (zs.map (·.1)) us → ReadsAll h us (zs.map (·.2)) as → PySem.W.EachIs (fun v z => RelV z.1 v) us zs ∧ PySem.W.EachIs (fun v z => ∃ as, Reads h v z.2 as) us zs
  | [], _, _, .nil, _ => ⟨.nil, .nil⟩
  | _ :: _, _, _, .cons r rs, .cons q qs => ⟨.cons r (each_of rs qs).1, .cons ⟨_, q⟩ (each_of rs qs).2⟩
theorem vals_each : ∀ {us : List Value} {zs : List (V × PyData)}, PySem.W.EachIs (fun v z => RelV z.1 v) us zs → Vals (zs.map (·.1)) us
  | _, _, .nil => .nil
  | _, _, .cons r rs => .cons r (vals_each rs)
theorem cr_sortN {X : Cx} (hu : X.A.units + 64 < cLine) : CallR X (.builtin "sorted") (rSortN X.K) := by
  intro pins s σ H vs us Q I rv1 got
  obtain ⟨a, zs, rfl, hs, hd, al, so, dp, q⟩ := got
  rw [Vals.ref1 rv1]
  obtain ⟨its, rv, plain, hz⟩ := I.list hs
  obtain ⟨as, rd⟩ := Dp.readsAll I _ _ _ hd rv
  obtain ⟨e1, e2⟩ := each_of rv rd
  have hz2 : zs.length ≤ sizeLine := by rw [List.length_map] at hz; exact hz
  refine PySem.W.sorted_data plain.isList e1 e2 al so hz2 (fun b hb => by have := dp b hb; omega) fun out hlen eo => ?_
  obtain ⟨epoch, stands⟩ := PyProof.Rows.sortedAll_at s.heap its out.toArray
  have vo := vals_each eo
  have lo : ((zs.mergeSort (PySem.W.dataLe false fun z => z.2)).map (·.1)).length ≤ sizeLine := by rw [vo.length, hlen]; exact hz2
  exact ⟨.ref _, upd H (s.heap.objs.size + 1) (.lst ((zs.mergeSort (PySem.W.dataLe false fun z => z.2)).map (·.1))), I.laid (t' := s.toks) (fun _ _ => PyProof.Rows.sortedAll_old) (Nat.le_succ _) ⟨lo, out, epoch, vo, stands⟩, rfl, q _ (I.hok.fresh (Nat.le_succ _))⟩
theorem crMinN {X : Cx} (K : PySem.W.Frag) (hu : X.A.units + 64 < cLine) (hc : X.calm = true := by rfl) (h : X.K = K := by rfl) : CallRK X (.builtin "min") [Str.ofString "default"] (rMinN K) := h ▸ cr_minN hc hu
theorem crSortN {X : Cx} (K : PySem.W.Frag) (hu : X.A.units + 64 < cLine) (h : X.K = K := by rfl) : CallR X (.builtin "sorted") (rSortN K) := h ▸ cr_sortN hu
section
variable {K : PySem.W.Frag} {ss : Sl} {mem m1 : List Mc} {te : TE} {α : Type}
def ltBy (gd : α → D) (x y : α) : Bool := PySem.W.dataLt (gd x).py (gd y).py
def optOf (gd : α → D) : Option α → D
  | none => .non
  | some x => gd x
def bestOf (gd : α → D) : List α → Option α
  | [] => none
  | x :: xs => some (xs.foldl (fun a y => if ltBy gd y a = true then y else a) x)
theorem minD_map (gd : α → D) : ∀ (xs : List α) (x : α), PySem.W.minD (gd x).py (xs.map fun y => (gd y).py) = (gd (xs.foldl (fun a y => if ltBy gd y a = true then y else a) x)).py
  | [], x => rfl
  | y :: ys, x => by
    have ih := minD_map gd ys (if ltBy gd y x = true then y else x)
    rw [List.foldl_cons, ← ih]
    unfold PySem.W.minD
    rw [List.map_cons, List.foldl_cons]
    unfold ltBy
    split <;> rfl
theorem pyAll_map (gd : α → D) : ∀ l : List α, D.pyAll (l.map gd) = l.map fun x => (gd x).py
  | [] => rfl
  | x :: l => congrArg (List.cons (gd x).py) (pyAll_map gd l)
theorem flatAll_map (gd : α → D) (n : Nat) : ∀ l : List α, (∀ x ∈ l, D.flat n (gd x) = true) → D.flatAll n (l.map gd) = true
  | [], _ => rfl
  | x :: l, h => by
    show (D.flat n (gd x) && D.flatAll n (l.map gd)) = true
    rw [h x List.mem_cons_self, flatAll_map gd n l fun y hy => h y (List.mem_cons_of_mem _ hy)]
    rfl
theorem dt_minN (gd : α → D) (l : List α) (h : DT K te ss mem (.dat (.lst (l.map gd))) m1) (flat : ∀ x ∈ l, D.flat 8 (gd x) = true) (al : ∀ x y, alikeD (gd x).py (gd y).py = true) (nn : ∀ x, (gd x).py ≠ .none) (inj : ∀ x y, (gd x).py = (gd y).py → gd x = gd y) :
    DT K (tCKw (rMinN K) (tCons te tNil) (tCons (tC .non) tNil)) ss mem (.dat (optOf gd (bestOf gd l))) m1 := fun B H al' σ Q S k =>
  h B H al' σ _ S fun B1 H1 al1 v P1 S1 r1 => by
    cases r1 with
    | @lst a xs _ s r =>
      have fl := flatAll_map gd 8 l flat
      refine ⟨a, xs, D.pyAll (l.map gd), rfl, rfl, S1.seqL s, RepAll.dp S1.sub 8 _ r fl, ⟨?_, ?_⟩, (flat_layAll 8 _ fl).2, fun e => ?_, fun y ys i x e at_ eq => ?_⟩
      · rw [pyAll_map]
        intro x hx y hy
        obtain ⟨a, -, rfl⟩ := List.mem_map.mp hx
        obtain ⟨b, -, rfl⟩ := List.mem_map.mp hy
        exact al a b
      · rw [pyAll_map]
        intro x hx
        obtain ⟨a, -, rfl⟩ := List.mem_map.mp hx
        exact nn a
      · cases l with
        | nil => exact k _ _ _ _ P1 S1 .non
        | cons x l => cases e
      · cases l with
        | nil => cases e
        | cons z l =>
          rw [pyAll_map, List.map_cons] at e
          obtain ⟨rfl, rfl⟩ := List.cons.inj e
          rw [minD_map] at eq
          obtain ⟨d, h1, h2⟩ := RepAll.get' r at_
          rw [pyAll_map, List.getElem?_map] at eq
          rw [List.getElem?_map] at h1
          cases q : (z :: l)[i]? with
          | none => rw [q] at h1; cases h1
          | some b =>
            rw [q] at h1 eq
            have e1 := Option.some.inj h1
            have e2 := inj _ _ (Option.some.inj eq)
            rw [← e1, e2] at h2
            exact k _ _ _ _ P1 S1 h2
theorem each_rep {B : Hp} (gd : α → D) : ∀ {xs : List V} {l : List α}, RepAll K B xs (l.map gd) → ∃ zs : List (V × PyData), zs.map (·.1) = xs ∧ zs.map (·.2) = l.map (fun x => (gd x).py) ∧ PySem.W.EachIs (fun z x => Rep K B z.1 (gd x) ∧ z.2 = (gd x).py) zs l
  | [], [], .nil => ⟨[], rfl, rfl, .nil⟩
  | x :: xs, y :: l, .cons r rs => by
    obtain ⟨zs, e1, e2, e3⟩ := each_rep gd rs
    exact ⟨(x, (gd y).py) :: zs, by rw [List.map_cons, e1], by rw [List.map_cons, e2, List.map_cons], .cons ⟨r, rfl⟩ e3⟩
theorem rep_each {B : Hp} (gd : α → D) : ∀ {zs : List (V × PyData)} {l : List α}, PySem.W.EachIs (fun z x => Rep K B z.1 (gd x) ∧ z.2 = (gd x).py) zs l → RepAll K B (zs.map (·.1)) (l.map gd)
  | _, _, .nil => .nil
  | _, _, .cons r rs => .cons r.1 (rep_each gd rs)
/-- l, as sorted orders it -/
def sortN (gd : α → D) (l : List α) : List α := l.mergeSort (PySem.W.dataLe false fun x => (gd x).py)
theorem dt_sortN (gd : α → D) (l : List α) (h : DT K te ss mem (.dat (.lst (l.map gd))) m1) (flat : ∀ x ∈ l, D.flat 8 (gd x) = true) (al : ∀ x y, alikeD (gd x).py (gd y).py = true) (tp : ∀ x, ∃ y r, (gd x).py = .tuple (y :: r)) :
    DT K (tCB (rSortN K) (tCons te tNil)) ss mem (.dat (.lst ((sortN gd l).map gd))) m1 := fun B H al' σ Q S k =>
  h B H al' σ _ S fun B1 H1 al1 v P1 S1 r1 => by
    cases r1 with
    | @lst a xs _ s r =>
      have fl := flatAll_map gd 8 l flat
      obtain ⟨zs, e1, e2, e3⟩ := each_rep gd r
      have dp := RepAll.dp S1.sub 8 _ r fl
      rw [pyAll_map, ← e2, ← e1] at dp
      refine ⟨a, zs, rfl, by rw [e1]; exact S1.seqL s, dp, ?_, ?_, fun z hz => ?_, fun p np => ?_⟩
      · rw [e2]
        exact PySem.W.AllAlike.of al
      · rw [e2]
        exact PySem.W.Sortable.tuples tp
      · have hm : z.2 ∈ zs.map (·.2) := List.mem_map_of_mem hz
        rw [e2] at hm
        obtain ⟨x, hx, ex⟩ := List.mem_map.mp hm
        rw [← ex]
        exact (flat_lay 8 _ (flat x hx)).2
      · obtain ⟨P2, S2⟩ := S1.lay (o := .lst ((zs.mergeSort (PySem.W.dataLe false fun z => z.2)).map (·.1))) np
        have so := PySem.W.sort_each (r := PySem.W.dataLe false fun z : V × PyData => z.2) (s := PySem.W.dataLe false fun x => (gd x).py) e3 (fun p hp q hq => by
          have a1 := (e3.zip p hp).2
          have a2 := (e3.zip q hq).2
          rw [PySem.W.dataLe_eq, PySem.W.dataLe_eq]
          dsimp only
          rw [a1, a2])
        exact k _ _ _ _ (P1.trans P2) S2 (.lst (SqL.of upd_same) (RepAll.mono P2.same _ (rep_each gd so)))
end
end DL
end
section
set_option Elab.async false
set_option linter.all false
set_option maxRecDepth 100000
/-! d.values() walked, d a dict with tuple keys; reversed(range(n)); list(range(n)); tuple * int -/
namespace DL
open PySem PySem.Spec PyProof.Rows L2
/-! ### the values -/
def ItVT (d : Addr) (o : Obj) (kvs : List (List L2.Key × V)) : It :=
  { go := fun i H => H d = some (.frz o (.dT kvs)) ∧ i < kvs.length
    yld := fun i H x H' => H' = H ∧ ∃ k, kvs[i]? = some (k, x)
    stop := fun i H => H d = some (.frz o (.dT kvs)) ∧ kvs.length ≤ i }
theorem ent_val {X : Cx} {pins : List (Addr × Obj)} {σ : L2.St} {H : Hp} {s : Shared} {d : Addr} {o : Obj} {kvs : List (List L2.Key × V)} {es : Array DictEntry} {ep : Nat} (I : Inv X pins σ H s) (h : H d = some (.frz o (.dT kvs))) (dat : o.data = .dict es ep) :
    s.heap.get? d = some o ∧ es.size = kvs.length ∧ ∀ (i : Nat) k v, kvs[i]? = some (k, v) → ∃ en, es[i]? = some en ∧ RelV v en.val := by
  obtain ⟨at_, -, -, xs, pr, o', es', ep', ho, -, hdt, he, -⟩ := I.hok d _ h
  obtain rfl : o = o' := Option.some.inj (at_.symm.trans ho)
  rw [dat] at hdt
  cases hdt
  have n1 := size_of_entries he
  have n2 : kvs.length = xs.length := Paired.length pr
  refine ⟨at_, n1.trans n2.symm, fun i k v e => ?_⟩
  obtain ⟨b, hb, -, -, rel⟩ := paired_get pr e
  have q := entry_at he i
  rw [hb] at q
  exact ⟨_, q, rel⟩
theorem turnVT {P : Program} {w : World} {K : PySem.W.Frag} {tg : Expr} {d : Addr} {o : Obj} {es : Array DictEntry} {ep : Nat} {kvs : List (List L2.Key × V)} (it : Addr) (dat : o.data = .dict es ep) : Turn P w K tg (ItVT d o kvs) [it] it (fun i h => h.get? it = some (DVw.valOb d i kvs.length ep)) :=
  { mem := List.mem_singleton.mpr rfl
    obj := fun i h st b hb => by obtain rfl := List.mem_singleton.mp hb; exact ⟨_, st, fun v z => nomatch z⟩
    keep := fun i h h' st k => k it (List.mem_singleton.mpr rfl) _ st
    self := fun A i s Q E st h => wpAny_pyIter_valiter (d := d) (i := i) (n := kvs.length) (ep := ep) ⟨_, st, rfl, rfl⟩ h
    item := fun X hP hw hK hc i pins s σ H E I hf st hg => by
      subst hP hw hK
      obtain ⟨f0, f1, f2, f3, f4, f5⟩ := hf it (List.mem_singleton.mpr rfl)
      obtain ⟨at_, sz, ent⟩ := ent_val I hg.1 dat
      obtain ⟨en, hen, rel⟩ := ent i _ _ (List.getElem?_eq_getElem hg.2)
      refine DVw.val_item st at_ dat sz hen fun h' he' sb => ⟨en.val, rfl, go_of (s := { s with heap := h' }) he' rfl rfl (by decide) ⟨_, H, I.turned (t' := s.toks) (fun b ob hb e => (sb.2 b hb).trans e) f0 f1 f3 f4 f5, rel, ⟨rfl, _, List.getElem?_eq_getElem hg.2⟩, he', fun b hb => (hf b hb).1⟩⟩
    done := fun X hP hw hK hc i pins s σ H E I hf st hg => by
      subst hP hw hK
      obtain ⟨f0, f1, f2, f3, f4, f5⟩ := hf it (List.mem_singleton.mpr rfl)
      obtain ⟨at_, sz, -⟩ := ent_val I hg.1 dat
      exact DVw.val_end (I.ok.hd hc) st at_ dat sz (Array.getElem?_eq_none (by rw [sz]; exact hg.2)) fun h' eb => ⟨rfl, I.turned (t' := s.toks) (fun b ob hb e => eb b ob hb e) f0 f1 f3 f4 f5⟩ }
theorem meetsVals {prog : Program} {w : World} {d : Addr} {es : Array DictEntry} {ep : Nat} (low : (d == sysModules) = false) :
    MeetsIn prog w (Builtin.«dict.values» ⟨[.ref d], []⟩) (fun _ R s => DT.Raw s.heap d es ep ∧ R (.ok (.ret (.ref s.heap.objs.size))) { s with heap := s.heap.push (DSub.viewOb "dict_values" d) }) := .of_wp fun A R s ⟨m, q⟩ => by
  show wpAny _ _ (Builtin.Dict.noArgs "values" ⟨[.ref d], []⟩ >>= _) _ _ s
  unfold Builtin.Dict.noArgs
  refine wpAny_bind (wpAny_bind (wpAny_notOrdered_dict m.typeIs (show wpAny _ _ (pure d) _ _ s from wpAny_pure ?_)))
  refine (?_ : wpAny _ _ (Builtin.Dict.showsAll d >>= _) _ _ s)
  unfold Builtin.Dict.showsAll
  rw [low]
  exact wpAny_bind (wpAny_pure (wpAny_bind (wpAny_newObj_type (wpAny_pure ⟨_, rfl, q⟩))))
def iValT (td : TE) : TI := fun σ H R => td σ H fun x H1 => ∃ d o kvs, x = .ref d ∧ H1 d = some (.frz o (.dT kvs)) ∧ R (ItVT d o kvs) H1
theorem pi_valT {X : Cx} {tg e : Expr} {td : TE} {apos cpos : Pos} (he : PE X e td) (hbase : attributeBase e "values" X.env (eval e X.env) = eval e X.env := by rfl) (hline : (apos.endLine == cpos.line) = true := by rfl) : PI X tg (.Call (.Attribute e "values" apos) [] [] cpos) (iValT td) := ⟨fun pins s σ H R I h =>
  wpAny_Call_method (T := "dict") (id := "dict.values") hbase rfl hline F.plainAttrs_dict F.slot_dict_values F.type_dict_values (thn (he.run pins s σ H _ I h) fun u s1 got => by
    obtain ⟨x, H1, I1, same, d, o, kvs, rfl, hd, q⟩ := got
    obtain rfl : u = Value.ref d := same
    obtain ⟨low, at_, ex, es, ep, dat, sz, -⟩ := I1.frzT hd
    refine ⟨⟨o, at_, ex.1⟩, fun b z => (by cases z; exact ⟨o, at_, ex.2.1⟩), ?_⟩
    have I2 : Inv X pins σ H1 { s1 with heap := s1.heap.push (DSub.viewOb "dict_values" d) } := I1.kept (t' := s1.toks) fun b ob q => Heap.get?_push_of_some _ q
    have raw : DT.Raw s1.heap d es ep := ⟨o, at_, ex, dat⟩
    refine method_meetsIn F.slot_dict_values F.entry_dict_values rfl (PySem.evalArgs_none ⟨rfl, raw.typeIs, F.args_dict_values_1 _, _, meetsVals (es := es) (ep := ep) low, raw, DSub.iter_vals (ob := o) (Heap.get?_push_size _ rfl) (Heap.get?_push_of_some _ at_) dat (pi_one (tk := s1.toks) I2 _ (turnVT _ dat) ?_ q)⟩)
    rw [← sz]
    exact Heap.get?_push_size _ rfl)⟩
section
variable {K : PySem.W.Frag} {ss : Sl} {mem m1 m2 : List Mc} {te ta tb : TE} {t : TA} {m : List (List Int × D)}
theorem di_vals {i : Nat} (hi : ss[i]? = some (some (.lk m))) : DI K (iValT (tVar i)) ss mem m.length (fun j => (m.getD j ([], .non)).2) mem := fun B H al σ R S k => by
  obtain ⟨v, h1, a, o, kvs, rfl, h2, h3⟩ := S.slot i _ hi
  refine ⟨.ref a, h1, a, o, kvs, rfl, S.sub _ _ h2, k B H al _ (Stp.refl _ _ _) S fun B1 H1 al1 σ1 ss1 mem1 e1 S1 => ?_⟩
  have h4 : H1 a = some (.frz o (.dT kvs)) := S1.sub _ _ (e1 _ _ h2)
  refine ⟨fun j hj => ⟨⟨h4, by rw [h3.len]; exact hj⟩, fun x H' y => ?_⟩, fun j hj => ⟨h4, by rw [h3.len]; exact hj⟩⟩
  obtain ⟨rfl, kk, y1⟩ := y
  obtain ⟨f, d, z1, -, z3⟩ := h3.at y1
  refine ⟨B1, Stp.refl _ _ _, S1, ?_⟩
  show Rep K B1 x (m.getD j ([], D.non)).2
  rw [List.getD_eq_getElem?_getD, z1]
  exact Rep.mono e1 _ z3
/-! ### reversed(range(n)), list(range(n)) -/
theorem di_revR {j : Int} (h : DT K te ss mem (.dat (.int j)) m1) (h1 : -(2 ^ 62) ≤ j) (h2 : j < 2 ^ 62) : DI K (iRevR (tRg1 te)) ss mem j.toNat (fun i => .int (j.toNat - 1 - (i : Nat))) m1 := fun B H al σ R S k =>
  h B H al σ _ S fun B1 H1 al1 v P1 S1 r1 => by
    cases r1
    refine ⟨j, rfl, by decide, by decide, h1, h2, ?_⟩
    have w := walks_rangeC (K := K) B1 (0 + (((j - 0).toNat : Nat) : Int) - 1) (-1) (j - 0).toNat
    have e1 : (fun i : Nat => D.int (0 + (((j - 0).toNat : Nat) : Int) - 1 + (i : Int) * (-1))) = fun i : Nat => D.int ((j.toNat : Nat) - 1 - (i : Nat)) := by
      funext i
      rw [show (j - 0).toNat = j.toNat by rw [Int.sub_zero]]
      congr 1
      omega
    rw [e1] at w
    refine k _ _ _ _ P1 S1 ?_
    have e2 : (j - 0).toNat = j.toNat := by rw [Int.sub_zero]
    rw [e2] at w
    rw [e2]
    exact w
theorem dt_listRg {j : Int} (h : DT K te ss mem (.dat (.int j)) m1) (h0 : 0 ≤ j) (h1 : j ≤ 16777216) : DT K (tLstRg (tRg1 te)) ss mem (.dat (.lst ((List.range j.toNat).map fun i : Nat => .int (i : Nat)))) m1 := fun B H al σ Q S k =>
  h B H al σ _ S fun B1 H1 al1 v P1 S1 r1 => by
    cases r1
    refine ⟨j, rfl, RgOk.of_le (by decide) h1 (by decide) h0, fun p np => ?_⟩
    obtain ⟨P2, S2⟩ := S1.lay (o := .lst (rgV 0 j)) np
    refine k _ _ _ _ (P1.trans P2) S2 (.lst (SqL.of upd_same) ?_)
    have e1 : rgV 0 j = ((List.range j.toNat).map fun i : Nat => ((i : Nat) : Int)).map V.int := by
      unfold rgV
      rw [List.map_map, show (j - 0).toNat = j.toNat by rw [Int.sub_zero]]
      refine congrArg (fun f => List.map f (List.range j.toNat)) (funext fun i => ?_)
      show V.int (0 + ((i : Nat) : Int)) = V.int ((i : Nat) : Int)
      rw [Int.zero_add]
    have e2 : ((List.range j.toNat).map fun i : Nat => D.int ((i : Nat) : Int)) = ((List.range j.toNat).map fun i : Nat => ((i : Nat) : Int)).map D.int := by
      rw [List.map_map]
      rfl
    rw [e1, e2]
    exact RepAll.ofInts _
end
end DL
end
section
set_option Elab.async false
set_option linter.all false
set_option maxRecDepth 100000
set_option maxHeartbeats 2000000
/-! tuple * int, the int 1 too -/
namespace DL
open PySem PySem.Spec PyProof.Rows L2
theorem tuple_once (l : Addr) (items : Array Value) (n : Nat) (dd : Option Addr) (sl : Array (Option Value)) (u : Tok) :
    Meets (Builtin.«tuple.__mul__» ⟨[.ref l, .int 1 u], []⟩) (fun _ R s => s.heap.get? l = some { cls := .type "tuple", dict := dd, data := .seq items n, slots := sl } ∧ R (.ok (.ret (Value.ref l))) s) := .of_wp fun prog w A R s got => by
  obtain ⟨hp, g, d, tk, os⟩ := s
  obtain ⟨at_, fin⟩ := got
  have ix := AutoSeq1.idx_int
  have c0 : (decide ((1 : Int) < -(2 ^ 63)) || decide ((1 : Int) ≥ 2 ^ 63)) = false := by decide
  have c1 : (items.isEmpty || (1 : Int) == 1) = true := by rw [Bool.or_eq_true]; exact .inr rfl
  wp_walk using wpAny_loadPart' at_
  repeat (first
    | (refine wpAny_ite_false (decide_eq_false (by rw [c0]; exact Bool.false_ne_true)) ?_; wp_walk using wpAny_loadPart' at_)
    | (refine wpAny_ite_true (decide_eq_true (by rw [c1])) ?_; wp_walk using wpAny_loadPart' at_))
  exact ⟨_, rfl, fin⟩
def rRepZ (K : PySem.W.Frag) : R2 := fun x y H Q => rRepT K x y H Q ∨ ∃ (l : Addr) (xs : List V), x = .ref l ∧ y = .int 1 ∧ SqT K H l xs ∧ Q x H
theorem opRepZ {X : Cx} (K : PySem.W.Frag) (h : X.K = K := by rfl) : OpR X (binaryOp .Mult) (rRepZ K) := by
  subst h
  intro pins s σ H x y v u Q I rx ry got
  rcases got with got | ⟨l, xs, rfl, rfl, sq, fin⟩
  · exact op_repT pins s σ H x y v u Q I rx ry got
  · cases rx
    obtain ⟨t, rfl⟩ := ry
    obtain ⟨its, r, ⟨⟨cls, dd, data, sl⟩, at_, hc, n, hd⟩, -⟩ := I.tuple sq
    simp only at hc hd
    subst hc hd
    exact wpAny_binaryOp_repeat_ref (T := "tuple") (U := "int") (by decide) ⟨_, at_, rfl⟩ (fun s' => typeIs_int s' 1 t) noFill_tuple_mul F.fills_int_mul F.slot_int_rmul repeat_tuple F.slot_int_index.lookup (call_meets F.slot_int_rmul (typeIs_int s 1 t) F.entry_int_rmul (F.args_int_rmul_2 _ _) (int_rmul_tuple 1 t l its.toArray n dd sl) ⟨at_, rfl, ⟨_, at_, rfl⟩, call_meets F.slot_tuple_mul ⟨_, at_, rfl⟩ F.entry_tuple_mul (F.args_tuple_mul_2 _ _) (tuple_once l its.toArray n dd sl t) ⟨at_, ⟨.ref l, H, I, rfl, fin⟩⟩⟩)
section
variable {K : PySem.W.Frag} {ss : Sl} {mem m1 m2 : List Mc} {te ta tb : TE}
theorem dt_repT {ds : List D} {k : Int} (ha : DT K ta ss mem (.dat (.tup ds)) m1) (hb : DT K tb ss m1 (.dat (.int k)) m2) (h0 : ds ≠ []) (h1 : 1 ≤ k) (h2 : k ≤ 1000) (h3 : ds.length ≤ 1000) : DT K (tOp (rRepZ K) ta tb) ss mem (.dat (.tup (List.replicate k.toNat ds).flatten)) m2 :=
  dt_op ha hb fun B H al σ v w Q S hv hw q => by
    cases hv with
    | @tup a xs _ a2 a3 =>
      cases hw
      have nx : xs ≠ [] := fun z => by
        subst z
        cases a3
        exact h0 rfl
      by_cases one : k = 1
      · subst one
        refine .inr ⟨a, xs, rfl, rfl, SqT.of (S.sub _ _ a2), ?_⟩
        have e : (List.replicate (1 : Int).toNat ds).flatten = ds := by
          show (List.replicate 1 ds).flatten = ds
          simp
        rw [e] at q
        exact q _ _ _ _ (Stp.refl _ _ _) S (.tup a2 a3)
      · refine .inl ⟨a, k, xs, rfl, rfl, SqT.of (S.sub _ _ a2), nx, by omega, h2, by rw [a3.len]; exact h3, fun p np => ?_⟩
        obtain ⟨P3, S3⟩ := S.lay (o := .tup (List.replicate k.toNat xs).flatten) np
        exact q _ _ _ _ P3 S3 (.tup upd_same (RepAll.mono P3.same _ (a3.times k.toNat)))
end
end DL
end
section
set_option Elab.async false
set_option linter.all false
set_option maxRecDepth 100000
/-! [elt for tg in iter for tg1 in iter1], the inner walk of any length -/
namespace DL
open PySem PySem.Spec PyProof.Rows L2
section
variable {elt tg iter tg1 iter1 : Expr} {scope : Scope} {pos : Pos}
abbrev lc2 (elt tg iter tg1 iter1 : Expr) (scope : Scope) (pos : Pos) : Expr := .ListComp elt [⟨tg, iter, [], 0⟩, ⟨tg1, iter1, [], 0⟩] scope pos
theorem turnA : TurnEq (lc2 elt tg iter tg1 iter1 scope pos) 0 iter.pos tg (inAct (lc2 elt tg iter tg1 iter1 scope pos) 1 iter1) := fun it acc env => by rfl
theorem turnB : TurnEq (lc2 elt tg iter tg1 iter1 scope pos) 1 iter1.pos tg1 (putAct elt) := fun it acc env => by rfl
end
theorem pe_lc2B {X : Cx} {elt tg iter tg1 iter1 : Expr} {scope : Scope} {own : List (Str × Nat)} {vs1 : List Nat} {pos : Pos} {wi wi1 : TI} {g g1 : TG} {te : TE}
    (hc : X.calm = true) (hN : X.N.Nodup) (hi : PI X tg iter wi) (ok : BlkOk X.N X.env.scope scope own) (v1 : ∀ u ∈ vs1, u ∈ own.map (·.2))
    (hg : ∀ s H C cl fp, PG (X.blk s H scope (compEnvC scope cl C X.env) fp) tg g)
    (hi1 : ∀ s H C cl fp, PI (X.blk s H scope (compEnvC scope cl C X.env) fp) tg1 iter1 wi1)
    (hg1 : ∀ s H C cl fp, PG (X.blk s H scope (compEnvC scope cl C X.env) fp) tg1 g1)
    (he : ∀ s H C cl fp, PE (X.blk s H scope (compEnvC scope cl C X.env) fp) elt te)
    (hs : ∀ x, foldedSetIterable iter X.env x = pure x := by intro _; rfl) (hs1 : ∀ env x, foldedSetIterable iter1 env x = pure x := by intro _ _; rfl) :
    PE X (.ListComp elt [⟨tg, iter, [], 0⟩, ⟨tg1, iter1, [], 0⟩] scope pos) (tLcB wi g (own.map (·.2)) fun D => tIn wi1 g1 vs1 (tPut te D)) :=
  pe_lcB hc hN hi ok turnA hg (fun s H C cl fp D => pb_in (us := []) hc rfl rfl hs1 turnB (hi1 s H C cl fp) (hg1 s H C cl fp) (pb_put rfl (he s H C cl fp)) fun u hu => (List.not_mem_nil hu).elim) v1 hs
end DL
end
section
set_option Elab.async false
set_option linter.all false
set_option maxRecDepth 100000
/-! while, whose body may answer -/
namespace DL
open PySem PySem.Spec PyProof.Rows L2
section
variable {K : PySem.W.Frag}
/-- from a, the loop comes to this end -/
inductive Goes {α : Type} (K : PySem.W.Frag) (c : TT) (tb : TS) (g : α → Sl) (m : α → List Mc) (μ : α → Nat) : α → Out → Prop
  | stop {a : α} : DB K c (g a) (m a) false (m a) → Goes K c tb g m μ a (.nx (g a) (m a))
  | ret {a : α} {r : Vl} {m' : List Mc} : DB K c (g a) (m a) true (m a) → DS K tb (g a) (m a) (.rt r m') → Goes K c tb g m μ a (.rt r m')
  | more {a a' : α} {out : Out} : DB K c (g a) (m a) true (m a) → DS K tb (g a) (m a) (.nx (g a') (m a')) → μ a' < μ a → Goes K c tb g m μ a' out → Goes K c tb g m μ a out
theorem ds_goes {α : Type} {c : TT} {tb : TS} {g : α → Sl} {m : α → List Mc} {μ : α → Nat} {a0 : α} {out : Out} (go : Goes K c tb g m μ a0 out) : DS K (tWhile c tb) (g a0) (m a0) out := fun B H al σ Dn S k => by
  refine ⟨fun q σ' H' => ∃ a, Goes K c tb g m μ a out ∧ μ a = q ∧ ∃ B' al', Stp B H al B' H' al' ∧ Sit K B' H' al' σ' (g a) (m a), ⟨μ a0, a0, go, rfl, B, al, Stp.refl _ _ _, S⟩, ?_⟩
  rintro q σ1 H1 ⟨a, ga, rfl, B1, al1, P1, S1⟩
  cases ga with
  | stop t =>
    refine t B1 H1 al1 σ1 _ S1 fun B2 H2 al2 P2 S2 => ?_
    rw [if_neg Bool.false_ne_true]
    exact k _ _ _ (P1.trans P2) σ1 S2
  | ret t body =>
    refine t B1 H1 al1 σ1 _ S1 fun B2 H2 al2 P2 S2 => ?_
    rw [if_pos rfl]
    exact ⟨fun _ _ => False, fun _ _ z => z.elim, body B2 H2 al2 σ1 _ S2 fun B3 H3 al3 P3 => k _ _ _ ((P1.trans P2).trans P3)⟩
  | @more _ a' _ t body lt rest =>
    refine t B1 H1 al1 σ1 _ S1 fun B2 H2 al2 P2 S2 => ?_
    rw [if_pos rfl]
    exact ⟨fun σ' H' => ∃ B' al', Stp B H al B' H' al' ∧ Sit K B' H' al' σ' (g a') (m a'), fun σ' H' w => ⟨μ a', lt, a', rest, rfl, w⟩, body B2 H2 al2 σ1 _ S2 fun B3 H3 al3 P3 σ3 S3 => ⟨B3, al3, (P1.trans P2).trans P3, S3⟩⟩
end
/-! for over a list: a state, or an answer -/
theorem runE_shift {α : Type} (step : α → Nat → Option α) (a : α) : ∀ n : Nat, runE step a (n + 1) = (step a 0).bind fun b => runE (fun c i => step c (i + 1)) b n
  | 0 => by
    show (some a).bind (fun b => step b 0) = (step a 0).bind fun b => some b
    rw [Option.bind_some]
    cases step a 0 <;> rfl
  | n + 1 => by
    have ih := runE_shift step a n
    show (runE step a (n + 1)).bind (fun b => step b (n + 1)) = _
    rw [ih]
    cases step a 0 <;> rfl
def outS {α : Type} (G : α → Sl) (mem : List Mc) : α ⊕ Vl → Out
  | .inl a => .nx (G a) mem
  | .inr r => .rt r mem
def scan {α β : Type} (step : α → β → α ⊕ Vl) : List β → α → α ⊕ Vl
  | [], a => .inl a
  | x :: l, a => match step a x with
    | .inl a' => scan step l a'
    | .inr r => .inr r
def stepE {α β : Type} (step : α → β → α ⊕ Vl) (z : β) (l : List β) (a : α) (i : Nat) : Option α := match step a (l.getD i z) with
  | .inl a' => some a'
  | .inr _ => none
theorem scan_inl {α β : Type} {step : α → β → α ⊕ Vl} {z : β} : ∀ {l : List β} {a b : α}, scan step l a = .inl b → runE (stepE step z l) a l.length = some b
  | [], a, b, h => by
    cases h
    rfl
  | x :: l, a, b, h => by
    rw [List.length_cons, runE_shift]
    unfold scan at h
    have e : stepE step z (x :: l) a 0 = match step a x with | .inl a' => some a' | .inr _ => none := rfl
    cases q : step a x with
    | inl a' =>
      rw [q] at h e
      rw [e]
      exact scan_inl (l := l) h
    | inr r =>
      rw [q] at h
      cases h
theorem scan_inr {α β : Type} {step : α → β → α ⊕ Vl} {z : β} {r : Vl} : ∀ {l : List β} {a : α}, scan step l a = .inr r → ∃ j b, j < l.length ∧ runE (stepE step z l) a j = some b ∧ step b (l.getD j z) = .inr r
  | [], a, h => by cases h
  | x :: l, a, h => by
    unfold scan at h
    cases q : step a x with
    | inl a' =>
      rw [q] at h
      obtain ⟨j, b, lt, h1, h2⟩ := scan_inr (z := z) (l := l) h
      refine ⟨j + 1, b, by rw [List.length_cons]; omega, ?_, h2⟩
      rw [runE_shift]
      have e : stepE step z (x :: l) a 0 = some a' := by
        show (match step a x with | .inl a' => some a' | .inr _ => none) = some a'
        rw [q]
      rw [e]
      exact h1
    | inr r' =>
      rw [q] at h
      cases h
      exact ⟨0, a, by rw [List.length_cons]; omega, rfl, q⟩
section
variable {K : PySem.W.Frag} {ss : Sl} {mem : List Mc} {te : TE}
theorem ds_forScanG {α β : Type} {tb : TS} {wi : TI} {g : TG} (gd : β → D) (z : β) (l : List β) (ks : List Nat) (G : α → Sl) (step : α → β → α ⊕ Vl) (I : α → Prop) (a0 : α) (i0 : I a0) (f0 : wipeS ss ks = G a0) (h : DI K wi (G a0) mem l.length (nthD (l.map gd)) mem)
    (turn : ∀ a, I a → ∀ x ∈ l, ∃ s1 ws, DG K g (G a) (gd x) s1 ws ∧ (∀ a', step a x = .inl a' → I a' ∧ ∃ s', DS K tb s1 mem (.nx s' mem) ∧ wipeS s' ks = G a') ∧ ∀ r, step a x = .inr r → DS K tb s1 mem (.rt r mem)) :
    DS K (tFor wi g tb) ss mem (outS G mem (scan step l a0)) := by
  let run : Nat → Option α := runE (stepE step z l) a0
  let f : Nat → Sl := fun i => G ((run i).getD a0)
  have fs : ∀ i a, run i = some a → f i = G a := fun i a e => by
    show G ((run i).getD a0) = _
    rw [e]
    rfl
  have nxt : ∀ i c a, run i = some c → run (i + 1) = some a → step c (l.getD i z) = .inl a := fun i c a hc ha => by
    obtain ⟨c', hc', st⟩ := runE_some ha
    obtain rfl : c = c' := Option.some.inj (hc.symm.trans hc')
    unfold stepE at st
    cases q : step c (l.getD i z) with
    | inl a' =>
      rw [q] at st
      cases st
      rfl
    | inr r =>
      rw [q] at st
      cases st
  have inv : ∀ i, i ≤ l.length → ∀ a, run i = some a → I a := fun i => by
    induction i with
    | zero => intro _ a e; cases e; exact i0
    | succ i ih =>
      intro le a e
      obtain ⟨c, hc, -⟩ := runE_some e
      obtain ⟨s1, ws, -, t, -⟩ := turn c (ih (by omega) c hc) (l.getD i z) (getD_in (by omega) z)
      exact (t a (nxt i c a hc e)).1
  have one : ∀ i, i < l.length → ∀ a b, run i = some a → run (i + 1) = some b → ∃ s1 ws, DG K g (G a) (nthD (l.map gd) i) s1 ws ∧ DS K tb s1 mem (.nx (G b) mem) := fun i hi a b e1 e2 => by
    obtain ⟨s1, ws, dg, t, -⟩ := turn a (inv i (by omega) a e1) (l.getD i z) (getD_in hi z)
    rw [nthD_map gd hi z]
    obtain ⟨-, s', d, e⟩ := t b (nxt i a b e1 e2)
    exact ⟨s1, ws, dg, ds_wipe ks d e⟩
  refine ds_pre ks f0 ?_
  cases q : scan step l a0 with
  | inl a =>
    have e := scan_inl (z := z) q
    have fl : f l.length = G a := fs _ a e
    have up : (runE (stepE step z l) a0 l.length).isSome = true := by rw [e]; rfl
    have r := ds_for (ss := f 0) h f (fun _ => mem) rfl rfl l.length (Nat.le_refl _) (out := .nx (f l.length) mem) (tb := tb) (g := g) (fun i hi => by
      obtain ⟨a1, h1⟩ := Option.isSome_iff_exists.mp (runE_down up i (by omega))
      obtain ⟨a2, h2⟩ := Option.isSome_iff_exists.mp (runE_down up (i + 1) (by omega))
      obtain ⟨s1, ws, dg, o⟩ := one i hi a1 a2 h1 h2
      rw [fs i a1 h1, fs (i + 1) a2 h2]
      exact ⟨s1, ws, dg, .inl o⟩) (.inl ⟨rfl, rfl⟩)
    rw [fl] at r
    exact r
  | inr r =>
    obtain ⟨j, b, hj, h1, h2⟩ := scan_inr (z := z) q
    have up : (runE (stepE step z l) a0 j).isSome = true := by rw [h1]; rfl
    refine ds_for (ss := f 0) h f (fun _ => mem) rfl rfl j (by omega) (tb := tb) (g := g) (fun i hi => ?_) (.inr ⟨hj, ?_⟩)
    · obtain ⟨a1, q1⟩ := Option.isSome_iff_exists.mp (runE_down up i (by omega))
      obtain ⟨a2, q2⟩ := Option.isSome_iff_exists.mp (runE_down up (i + 1) (by omega))
      obtain ⟨s1, ws, dg, o⟩ := one i (by omega) a1 a2 q1 q2
      rw [fs i a1 q1, fs (i + 1) a2 q2]
      exact ⟨s1, ws, dg, .inl o⟩
    · obtain ⟨s1, ws, dg, -, t⟩ := turn b (inv j (by omega) b h1) (l.getD j z) (getD_in hj z)
      rw [← nthD_map gd hj z, ← fs j b h1] at dg
      exact ⟨s1, ws, dg, .inl ⟨_, _, t r h2, rfl⟩⟩
theorem ds_forScan {α β : Type} {tb : TS} (gd : β → D) (z : β) (l : List β) {k : Nat} (ks : List Nat) (G : α → Sl) (step : α → β → α ⊕ Vl) (I : α → Prop) (a0 : α) (i0 : I a0) (f0 : wipeS ss ks = G a0) (h : DT K te (G a0) mem (.dat (.lst (l.map gd))) mem)
    (turn : ∀ a, I a → ∀ x ∈ l, (∀ a', step a x = .inl a' → I a' ∧ ∃ s', DS K tb ((G a).set k (some (.dat (gd x)))) mem (.nx s' mem) ∧ wipeS s' ks = G a') ∧ ∀ r, step a x = .inr r → DS K tb ((G a).set k (some (.dat (gd x)))) mem (.rt r mem)) :
    DS K (tFor (iList K te) (gName k) tb) ss mem (outS G mem (scan step l a0)) :=
  ds_forScanG gd z l ks G step I a0 i0 f0 (di_map gd l h) fun a ia x hx => ⟨_, _, dg_name, turn a ia x hx⟩
theorem di_mapT {β : Type} (g : β → D) (l : List β) (h : DT K te ss mem (.dat (.tup (l.map g))) mem) : DI K (iTup K te) ss mem l.length (nthD (l.map g)) mem := by
  have d := di_tup h
  rw [List.length_map] at d
  exact d
end
end DL
end
section
set_option Elab.async false
set_option linter.all false
set_option maxRecDepth 100000
/-! exceptions: a way out more -/
namespace DL
open PySem PySem.Spec PyProof.Rows L2
/-- what is raised: its class, its fields (none: a class that keeps none) -/
structure Xc where
  C : Addr
  fs : Option (List (Str × D))
def XcOk (K : PySem.W.Frag) (B H : Hp) (dd : Option Addr) (x : Xc) : Prop := match x.fs with
  | none => dd = none
  | some gs => ∃ a fv, dd = some a ∧ H a = some (.xd fv) ∧ RepFs K B fv gs
/-- a statement raises x -/
def DX (K : PySem.W.Frag) (W : WX) (t : TS) (ss : Sl) (mem : List Mc) (x : Xc) (ss' : Sl) (mem' : List Mc) : Prop :=
  ∀ (B H : Hp) (al : List Addr) (σ : L2.St) (Dn : Ends), Sit K B H al σ ss mem → (∀ B' H' al' σ' dd, Stp B H al B' H' al' → Sit K B' H' al' σ' ss' mem' → XcOk K B' H' dd x → W (.ref x.C) dd σ' H') → t Dn σ H
/-- an expression raises x -/
def DTX (K : PySem.W.Frag) (W : WX) (t : TE) (ss : Sl) (mem : List Mc) (x : Xc) (mem' : List Mc) : Prop :=
  ∀ (B H : Hp) (al : List Addr) (σ : L2.St) (Q : VK), Sit K B H al σ ss mem → (∀ B' H' al' dd, Stp B H al B' H' al' → Sit K B' H' al' σ ss mem' → XcOk K B' H' dd x → W (.ref x.C) dd σ H') → t σ H Q
section
variable {K : PySem.W.Frag} {W : WX} {ss ss1 ss2 : Sl} {mem m1 m2 m3 : List Mc} {ta tb te : TE} {d : D} {r : Vl} {t u : TS} {x : Xc} {out : Out}
theorem dx_seq1 (h : DX K W t ss mem x ss1 m1) : DX K W (tSeq t u) ss mem x ss1 m1 := fun B H al σ Dn S k => h B H al σ { Dn with nx := u Dn } S k
theorem dx_seq (h : DS K t ss mem (.nx ss1 m1)) (g : DX K W u ss1 m1 x ss2 m2) : DX K W (tSeq t u) ss mem x ss2 m2 := fun B H al σ Dn S k =>
  h B H al σ { Dn with nx := u Dn } S fun B1 H1 al1 P1 σ1 S1 => g B1 H1 al1 σ1 Dn S1 fun B2 H2 al2 σ2 dd P2 S2 o => k _ _ _ _ _ (P1.trans P2) S2 o
theorem dx_if {c : TT} {b : Bool} (h : DB K c ss mem b m1) (g : if b = true then DX K W t ss m1 x ss2 m2 else DX K W u ss m1 x ss2 m2) : DX K W (tIfS c t u) ss mem x ss2 m2 := fun B H al σ Dn S k =>
  h B H al σ _ S fun B1 H1 al1 P1 S1 => by
    cases b with
    | true => exact iteT (g B1 H1 al1 σ Dn S1 fun B2 H2 al2 σ2 dd P2 S2 o => k _ _ _ _ _ (P1.trans P2) S2 o)
    | false => exact iteF (g B1 H1 al1 σ Dn S1 fun B2 H2 al2 σ2 dd P2 S2 o => k _ _ _ _ _ (P1.trans P2) S2 o)
theorem dx_if_t {c : TT} (h : DB K c ss mem true m1) (g : DX K W t ss m1 x ss2 m2) : DX K W (tIfS c t u) ss mem x ss2 m2 := dx_if h g
theorem dx_if_f {c : TT} (h : DB K c ss mem false m1) (g : DX K W u ss m1 x ss2 m2) : DX K W (tIfS c t u) ss mem x ss2 m2 := dx_if h g
theorem dx_drop (h : DTX K W te ss mem x m1) : DX K W (tDrop te) ss mem x ss m1 := fun B H al σ Dn S k => h B H al σ _ S fun B1 H1 al1 dd P1 S1 o => k _ _ _ _ _ P1 S1 o
theorem dx_ret (h : DTX K W te ss mem x m1) : DX K W (tRet te) ss mem x ss m1 := fun B H al σ Dn S k => h B H al σ _ S fun B1 H1 al1 dd P1 S1 o => k _ _ _ _ _ P1 S1 o
theorem dx_asg {g : TG} (h : DTX K W te ss mem x m1) : DX K W (tAsg te g) ss mem x ss m1 := fun B H al σ Dn S k => h B H al σ _ S fun B1 H1 al1 dd P1 S1 o => k _ _ _ _ _ P1 S1 o
/-- raise C('..') -/
theorem dx_raise {C : Addr} : DX K W (fun _ σ H => W (.ref C) none σ H) ss mem ⟨C, none⟩ ss mem := fun B H al σ Dn S k => k _ _ _ σ none (Stp.refl _ _ _) S rfl
/-! try: .. except c: .. else: .. -/
section
variable {ts : Addr → Value → Option Addr → TS} {tb : WX → TS} {Wout : WX} {c : Value}
theorem ds_tryE (hb : ∀ W : WX, DS K (tb W) ss mem (.nx ss1 m1)) (hu : DS K u ss1 m1 out) : DS K (fun Dn σ H => tb (wOnly K c ts Wout Dn) { Dn with nx := u Dn } σ H) ss mem out := fun B H al σ Dn S k =>
  hb _ B H al σ { Dn with nx := u Dn } S fun B1 H1 al1 P1 σ1 S1 => hu B1 H1 al1 σ1 Dn S1 fun B2 H2 al2 P2 => k _ _ _ (P1.trans P2)
theorem ds_try (hb : ∀ W : WX, DS K (tb W) ss mem out) : DS K (fun Dn σ H => tb (wOnly K c ts Wout Dn) Dn σ H) ss mem out := fun B H al σ Dn S k => hb _ B H al σ Dn S k
theorem ds_tryE_x (hb : ∀ W : WX, DX K W (tb W) ss mem x ss1 m1) (hc : PySem.W.exmOne K (.ref x.C) c = some true) (hs : ∀ a dd, DS K (ts a (.ref x.C) dd) ss1 m1 out) : DS K (fun Dn σ H => tb (wOnly K c ts Wout Dn) { Dn with nx := u Dn } σ H) ss mem out := fun B H al σ Dn S k =>
  hb _ B H al σ { Dn with nx := u Dn } S fun B1 H1 al1 σ1 dd P1 S1 o => ⟨true, hc, fun _ a na => hs a dd B1 H1 al1 σ1 Dn S1 fun B2 H2 al2 P2 => k _ _ _ (P1.trans P2), fun z => nomatch z⟩
theorem ds_try_x (hb : ∀ W : WX, DX K W (tb W) ss mem x ss1 m1) (hc : PySem.W.exmOne K (.ref x.C) c = some true) (hs : ∀ a dd, DS K (ts a (.ref x.C) dd) ss1 m1 out) : DS K (fun Dn σ H => tb (wOnly K c ts Wout Dn) Dn σ H) ss mem out := fun B H al σ Dn S k =>
  hb _ B H al σ Dn S fun B1 H1 al1 σ1 dd P1 S1 o => ⟨true, hc, fun _ a na => hs a dd B1 H1 al1 σ1 Dn S1 fun B2 H2 al2 P2 => k _ _ _ (P1.trans P2), fun z => nomatch z⟩
end
end
/-! ### promises of defs that raise -/
/-- args, own objects; what is raised, own objects behind it -/
abbrev RelX := List Vl → List Mc → Xc → List Mc → Prop
/-- either an answer, or an exception -/
def spX (K : PySem.W.Frag) (n : Nat) (R : Rel) (RX : RelX) : Sp := fun vs H Q E => spD K n R vs H Q E ∨ ∃ B al args mem x mem', RX args mem x mem' ∧ args.length = n ∧ mem'.length = mem.length ∧ Sit K B H al (vs.map some) (args.map some) mem ∧
  ∀ B' H' dd, Stp B H al B' H' al → Sit K B' H' al (vs.map some) (args.map some) mem' → XcOk K B' H' dd x → E (.ref x.C) dd H'
/-- a def that raises, used where it doesn't -/
theorem FnOk.quiet {P : Program} {w : World} {K : PySem.W.Frag} {mg : Str → Option Value} {base : Heap} {k : Nat} {f : Addr} {fd : FuncData} {ps : List Str} {n : Nat} {R : Rel} {RX : RelX} (F : FnOk P w K mg base (L2.CX P w) k f fd ps (spX K n R RX)) :
    FnOk P w K mg base CX0 k f fd ps (spD K n R) := by
  refine ⟨fun vs H Q E h => F.len vs H Q E (.inl h), fun A outer s H args us vs Q E hr he hb hv hs => ?_⟩
  have hs' : spD K n R vs H Q (fun _ _ _ => False) := hs
  refine codeAny_mono (F.run A outer s H args us vs Q (fun _ _ _ => False) hr he hb hv (.inl hs')) fun r s' h => ?_
  cases r with
  | error e =>
    obtain ⟨a, ground, after, cls, d, -, -, -, -, -, -, -, never⟩ := h
    exact never.elim
  | ok fl => cases fl <;> exact h
section
variable {P : Program} {w : World} {K : PySem.W.Frag} {mg : Str → Option Value} {base : Heap}
theorem fnX {x qual : Str} {st : Stmt} {f : Addr} {fd : FuncData} {N ps : List Str} {k n : Nat} {R : Rel} {RX : RelX} (F : Fun K x qual st f fd) (S : FnScope N ps (defScope st)) (hp : ps.length = n)
    (hbody : ∀ (cdv : Value) (A : Around) (outer : List Env) (s : Shared) (H : Hp) (E : XK), Room k (A.deeper (envOfC qual (defScope st) s.heap.objs.size f cdv)) →
      ∃ t, PSs (cxOf (L2.CX P w) P w K mg base N qual (defScope st) f cdv A outer s H E) (defBody st) t ∧
        (∀ args mem d mem', R args mem d mem' → args.length = n → Ends1 K t (args.map some ++ List.replicate (N.length - n) none) mem d mem') ∧
        ∀ args mem x mem', RX args mem x mem' → args.length = n → ∃ ss' more, DX K (fun cls dd _ H' => E cls dd H') t (args.map some ++ List.replicate (N.length - n) none) mem x ss' (mem' ++ more)) :
    FnOk P w K mg base (L2.CX P w) (k + 1) f fd ps (spX K n R RX) := by
  refine F.okX S (fun vs H Q E h => ?_) (fun cdv A outer s H vs Q E hr h => ?_)
  · rcases h with ⟨B, al, args, mem, d, mem', _, hn, _, S0, _⟩ | ⟨B, al, args, mem, d, mem', _, hn, _, S0, _⟩
    · have := S0.len
      rw [List.length_map, List.length_map] at this
      omega
    · have := S0.len
      rw [List.length_map, List.length_map] at this
      omega
  · obtain ⟨t, ht, hd, hx⟩ := hbody cdv A outer s H E hr
    refine ⟨t, ht, ?_⟩
    have back : ∀ {B : Hp} {al : List Addr} {args : List Vl} {mem mem' : List Mc} {B' H' : Hp} {al' : List Addr} {σ' : L2.St} {ss' : Sl} {more : List Mc}, Sit K B H al (vs.map some) (args.map some) mem → mem'.length = mem.length → Stp B H al B' H' al' → Sit K B' H' al' σ' ss' (mem' ++ more) →
        Stp B H al B' H' al ∧ Sit K B' H' al (vs.map some) (args.map some) mem' := fun {B al args mem mem' B' H' al' σ' ss' more} S0 hm P' S' => by
      have e1 : al.length = mem'.length := by rw [S0.mlen, hm]
      obtain ⟨ex, q, hx⟩ := P'.ext
      have e2 : al'.take mem'.length = al := by
        rw [q, List.take_append_of_le_length (by omega), List.take_of_length_le (by omega)]
      have P2 := P'.drop mem'.length (by omega)
      rw [e2] at P2
      have S1 : Sit K B' H' al' (vs.map some) ((args.map some).map fun _ => none) (mem' ++ more) := by
        refine ⟨S'.sub, ?_, fun i r e => ?_, S'.mlen, S'.mem, S'.nd, S'.there⟩
        · rw [List.length_map (as := args.map some)]
          exact S0.len
        · rw [List.getElem?_map] at e
          cases z : (args.map some)[i]? with
          | none => rw [z] at e; cases e
          | some y => rw [z] at e; cases e
      have S2 := S1.drop fun i n' e => by
        rw [List.getElem?_map] at e
        cases z : (args.map some)[i]? with
        | none => rw [z] at e; cases e
        | some y => rw [z] at e; cases e
      rw [e2] at S2
      exact ⟨P2, S0.back P2 S2⟩
    rcases h with ⟨B, al, args, mem, d, mem', hR, hn, hm, S0, k0⟩ | ⟨B, al, args, mem, y, mem', hR, hn, hm, S0, k0⟩
    · obtain ⟨more, h | ⟨hd0, s', h⟩⟩ := hd args mem d mem' hR hn
      · exact h B H al (L2.start N vs) _ (start_sit S0 hn) fun B' H' al' P' σ' ss' v S' rv => k0 B' H' v (back S0 hm P' S').1 (back S0 hm P' S').2 rv
      · exact h B H al (L2.start N vs) _ (start_sit S0 hn) fun B' H' al' P' σ' S' => k0 B' H' .non (back S0 hm P' S').1 (back S0 hm P' S').2 (hd0 ▸ .non)
    · obtain ⟨ss', more, h⟩ := hx args mem y mem' hR hn
      exact h B H al (L2.start N vs) _ (start_sit S0 hn) fun B' H' al' σ' dd P' S' o => k0 B' H' dd (back S0 hm P' S').1 (back S0 hm P' S').2 o
end
/-- what a def's body may raise -/
theorem takes_cx {P : Program} {w : World} {K : PySem.W.Frag} {mg : Str → Option Value} {base : Heap} {N : List Str} {qual : Str} {scope : Scope} {f : Addr} {cdv : Value} {A : Around} {outer : List Env} {s : Shared} {H : Hp} {E : XK} :
    Takes (cxOf (L2.CX P w) P w K mg base N qual scope f cdv A outer s H E) (fun cls d _ H' => E cls d H') := takes_of rfl rfl rfl rfl
end DL
end
section
set_option Elab.async false
set_option linter.all false
set_option maxRecDepth 100000
/-! methods of own objects -/
namespace DL
open PySem PySem.Spec PyProof.Rows L2
section
variable {K : PySem.W.Frag} {ss : Sl} {mem m1 m2 : List Mc} {ta te : TE} {t : TA} {d : D} {W : WX} {x : Xc}
/-- what a callee sees of one own object and data -/
theorem Sit.give {B H : Hp} {al : List Addr} {σ : L2.St} {p : Nat} {m : Mc} {vs : List V} {rs : List Vl} (S : Sit K B H al σ ss mem) (rv : VlsOk K B al vs rs) (ho : ∀ q ∈ rs, (∃ d, q = .dat d) ∨ q = .own p) (hm : mem[p]? = some m) :
    ∃ a, al[p]? = some a ∧ Sit K B H [a] (vs.map some) ((rs.map re0).map some) [m] := by
  have hp : p < al.length := by
    rw [S.mlen]
    exact (List.getElem?_eq_some_iff.mp hm).1
  have a1 : al[p]? = some al[p] := List.getElem?_eq_getElem hp
  generalize al[p] = a at a1
  refine ⟨a, a1, S.sub, by simp only [List.length_map]; exact rv.len, fun i q e => ?_, rfl, fun l c w e1 e2 => ?_, List.pairwise_singleton _ _, fun c hc => ?_⟩
  · simp only [List.getElem?_map, Option.map_eq_some_iff] at e
    obtain ⟨_, ⟨q0, e0, rfl⟩, e2⟩ := e
    cases Option.some.inj e2
    obtain ⟨v, v1, v2⟩ := rv.get e0
    refine ⟨v, by rw [List.getElem?_map, v1]; rfl, ?_⟩
    rcases ho q0 (List.mem_of_getElem? e0) with ⟨d', rfl⟩ | rfl
    · exact v2
    · obtain ⟨x, x1, x2⟩ := v2
      exact ⟨a, rfl, by rw [x2, Option.some.inj (x1.symm.trans a1)]⟩
  · match l, e1, e2 with
    | 0, e1, e2 => exact Option.some.inj e1 ▸ Option.some.inj e2 ▸ S.mem p a m a1 hm
  · exact List.mem_singleton.mp hc ▸ S.there a (List.mem_of_getElem? a1)
theorem vls_dats {B : Hp} {al : List Addr} : ∀ {vs : List V} {ds : List D}, RepAll K B vs ds → VlsOk K B al vs (ds.map Vl.dat)
  | _, [], h => by cases h; trivial
  | _, _ :: _, h => by
    cases h with
    | cons h1 h2 => exact ⟨h1, vls_dats h2⟩
theorem re0_dats (ds : List D) : (ds.map Vl.dat).map re0 = ds.map Vl.dat := by
  rw [List.map_map]
  rfl
/-- as oneR, for what is raised -/
def oneX (RX : List Vl → Mc → Xc → Mc → Prop) : RelX := fun args mem x mem' => ∃ m m', mem = [m] ∧ mem' = [m'] ∧ RX args m x m'
/-- o.m(..), o own, the others data: up to the call -/
theorem own_meth {C : Addr} {gs : List (Str × D)} {mn : Str} {ds : List D} {p : Nat} {B H : Hp} {al : List Addr} {σ : L2.St} {G : V → List V → Hp → Prop} (ho : DT K ta ss mem (.own p) m1) (hm1 : m1[p]? = some (.obj C gs)) (hl : gs.lookup mn = none) (h : DA K t ss m1 ds m2) (hm2 : m2[p]? = some (.obj C gs)) (S : Sit K B H al σ ss mem)
    (k : ∀ B2 H2 al2 a vs, Stp B H al B2 H2 al2 → Sit K B2 H2 al2 σ ss m2 → al2[p]? = some a → Sit K B2 H2 [a] ((V.ref a :: vs).map some) (((Vl.own 0) :: ds.map Vl.dat).map some) [.obj C gs] → G (.ref a) vs H2) :
    ta σ H fun x H1 => ∃ a dx fs, x = .ref a ∧ H1 a = some (.ins C dx fs) ∧ fs.lookup mn = none ∧ t σ H1 fun vs H2 => G x vs H2 :=
  ho B H al σ _ S fun B1 H1 al1 v P1 S1 rv => by
    obtain ⟨a, a1, rfl⟩ := rv
    obtain ⟨-, dx, fv, ha, rf⟩ := S1.mem p a _ a1 hm1
    refine ⟨a, dx, fv, rfl, ha, rf.nolook hl, h B1 H1 al1 σ _ S1 fun B2 H2 al2 vs P2 S2 rs => ?_⟩
    have a2 := P2.get a1
    have rv2 : VlsOk K B2 al2 (.ref a :: vs) (Vl.own p :: ds.map Vl.dat) := ⟨⟨a, a2, rfl⟩, vls_dats rs⟩
    obtain ⟨b, b1, Sg⟩ := S2.give rv2 (fun q hq => by
      rcases List.mem_cons.mp hq with e | hq
      · exact .inr e
      · obtain ⟨d', _, rfl⟩ := List.mem_map.mp hq
        exact .inl ⟨d', rfl⟩) hm2
    cases Option.some.inj (a2.symm.trans b1)
    rw [List.map_cons (f := re0), re0_dats] at Sg
    exact k _ _ _ _ _ (P1.trans P2) S2 a2 Sg
theorem dt_methM {C : Addr} {gs : List (Str × D)} {mn : Str} {n p : Nat} {R : List Vl → Mc → D → Mc → Prop} {E : XK} {ds : List D} {m' : Mc} (ho : DT K ta ss mem (.own p) m1) (hm1 : m1[p]? = some (.obj C gs)) (hl : gs.lookup mn = none) (h : DA K t ss m1 ds m2) (hm2 : m2[p]? = some (.obj C gs))
    (hR : R (.own 0 :: ds.map Vl.dat) (.obj C gs) d m') (hn : ds.length + 1 = n := by rfl) : DT K (tMeth C mn (spM K n R) [] E ta t) ss mem (.dat d) (m2.set p m') := fun B H al σ Q S q =>
  own_meth ho hm1 hl h hm2 S fun B2 H2 al2 a vs P2 S2 a2 Sg => by
    refine ⟨B2, [a], .own 0 :: ds.map Vl.dat, [.obj C gs], d, [m'], ⟨_, _, rfl, rfl, hR⟩, by rw [List.length_cons, List.length_map]; exact hn, rfl, by rw [List.append_nil]; exact Sg, fun B' H' v P S' rd => ?_⟩
    obtain ⟨P3, S3⟩ := S2.after1 a2 P S'.sub (S'.mem 0 a m' rfl rfl)
    exact q _ _ _ _ (P2.trans P3) S3 rd
/-! a method that may raise -/
/-- o.m(..), with the slots known to what is wished of an exception -/
def tMethS (C : Addr) (m : Str) (sp : Sp) (E : L2.St → XK) (ta : TE) (t : TA) : TE := fun σ => tMeth C m sp [] (E σ) ta t σ
theorem dt_methS {C : Addr} {gs : List (Str × D)} {mn : Str} {n p : Nat} {R : List Vl → Mc → D → Mc → Prop} {RX : RelX} {ds : List D} {m' : Mc} (ho : DT K ta ss mem (.own p) m1) (hm1 : m1[p]? = some (.obj C gs)) (hl : gs.lookup mn = none) (h : DA K t ss m1 ds m2) (hm2 : m2[p]? = some (.obj C gs))
    (hR : R (.own 0 :: ds.map Vl.dat) (.obj C gs) d m') (hn : ds.length + 1 = n := by rfl) : DT K (tMethS C mn (spX K n (oneR R) RX) (WE W) ta t) ss mem (.dat d) (m2.set p m') := fun B H al σ Q S q =>
  own_meth ho hm1 hl h hm2 S fun B2 H2 al2 a vs P2 S2 a2 Sg => by
    refine .inl ⟨B2, [a], .own 0 :: ds.map Vl.dat, [.obj C gs], d, [m'], ⟨_, _, rfl, rfl, hR⟩, by rw [List.length_cons, List.length_map]; exact hn, rfl, by rw [List.append_nil]; exact Sg, fun B' H' v P S' rd => ?_⟩
    obtain ⟨P3, S3⟩ := S2.after1 a2 P S'.sub (S'.mem 0 a m' rfl rfl)
    exact q _ _ _ _ (P2.trans P3) S3 rd
theorem dtx_methS {C : Addr} {gs : List (Str × D)} {mn : Str} {n p : Nat} {R : Rel} {RX : List Vl → Mc → Xc → Mc → Prop} {ds : List D} {m' : Mc} (ho : DT K ta ss mem (.own p) m1) (hm1 : m1[p]? = some (.obj C gs)) (hl : gs.lookup mn = none) (h : DA K t ss m1 ds m2) (hm2 : m2[p]? = some (.obj C gs))
    (hR : RX (.own 0 :: ds.map Vl.dat) (.obj C gs) x m') (hn : ds.length + 1 = n := by rfl) : DTX K W (tMethS C mn (spX K n R (oneX RX)) (WE W) ta t) ss mem x (m2.set p m') := fun B H al σ Q S q =>
  own_meth ho hm1 hl h hm2 S fun B2 H2 al2 a vs P2 S2 a2 Sg => by
    refine .inr ⟨B2, [a], .own 0 :: ds.map Vl.dat, [.obj C gs], x, [m'], ⟨_, _, rfl, rfl, hR⟩, by rw [List.length_cons, List.length_map]; exact hn, rfl, by rw [List.append_nil]; exact Sg, fun B' H' dd P S' o => ?_⟩
    obtain ⟨P3, S3⟩ := S2.after1 a2 P S'.sub (S'.mem 0 a m' rfl rfl)
    exact q _ _ _ _ (P2.trans P3) S3 o
/-! a property, the length -/
theorem own_one {C : Addr} {gs : List (Str × D)} {p : Nat} {R : List Vl → Mc → D → Mc → Prop} {E : XK} {m' : Mc} {B H : Hp} {al : List Addr} {σ : L2.St} {Q : VK} (hm : m1[p]? = some (.obj C gs)) (hR : R [.own 0] (.obj C gs) d m') {a : Addr} (S : Sit K B H al σ ss m1) (a1 : al[p]? = some a)
    (q : ∀ B' H' v, Stp B H al B' H' al → Sit K B' H' al σ ss (m1.set p m') → Rep K B' v d → Q v H') : spM K 1 R [.ref a] H Q E := by
  obtain ⟨b, b1, Sg⟩ := S.give (vs := [.ref a]) (rs := [.own p]) ⟨⟨a, a1, rfl⟩, trivial⟩ (fun r hr => .inr (List.mem_singleton.mp hr)) hm
  cases Option.some.inj (a1.symm.trans b1)
  refine ⟨B, [a], [.own 0], [.obj C gs], d, [m'], ⟨_, _, rfl, rfl, hR⟩, rfl, rfl, Sg, fun B' H' v P S' rd => ?_⟩
  obtain ⟨P3, S3⟩ := S.after1 a1 P S'.sub (S'.mem 0 a m' rfl rfl)
  exact q _ _ _ P3 S3 rd
theorem dt_propM {C : Addr} {gs : List (Str × D)} {p : Nat} {R : List Vl → Mc → D → Mc → Prop} {E : XK} {m' : Mc} (ho : DT K ta ss mem (.own p) m1) (hm : m1[p]? = some (.obj C gs)) (hR : R [.own 0] (.obj C gs) d m') : DT K (tProp C (spM K 1 R) [] E ta) ss mem (.dat d) (m1.set p m') := fun B H al σ Q S q =>
  ho B H al σ _ S fun B1 H1 al1 v P1 S1 rv => by
    obtain ⟨a, a1, rfl⟩ := rv
    obtain ⟨-, dx, fv, ha, -⟩ := S1.mem p a _ a1 hm
    exact ⟨a, dx, fv, rfl, ha, own_one hm hR S1 a1 fun B' H' v P S' rd => q _ _ _ _ (P1.trans P) S' rd⟩
theorem dt_lenM {C : Addr} {gs : List (Str × D)} {p : Nat} {R : List Vl → Mc → D → Mc → Prop} {E : XK} {m' : Mc} {i : Int} (ho : DT K te ss mem (.own p) m1) (hm : m1[p]? = some (.obj C gs)) (hR : R [.own 0] (.obj C gs) (.int i) m') (h0 : 0 ≤ i) (h1 : i < 2 ^ 63) : DT K (tCB (rLenOwn C (spM K 1 R) E) (tCons te tNil)) ss mem (.dat (.int i)) (m1.set p m') := fun B H al σ Q S q =>
  ho B H al σ _ S fun B1 H1 al1 v P1 S1 rv => by
    obtain ⟨a, a1, rfl⟩ := rv
    obtain ⟨-, dx, fv, ha, -⟩ := S1.mem p a _ a1 hm
    refine ⟨a, dx, fv, rfl, ha, own_one hm hR S1 a1 fun B' H' v P S' rd => ?_⟩
    cases rd
    exact ⟨i, rfl, h0, h1, q _ _ _ _ (P1.trans P) S' (.int i)⟩
/-! list(a tuple); isinstance(x, (list, tuple)) -/
theorem dt_listT {ds : List D} (h : DT K te ss mem (.dat (.tup ds)) m1) : DT K (tCB (rListOf K) (tCons te tNil)) ss mem (.dat (.rls ds)) m1 := fun B H al σ Q S q =>
  h B H al σ _ S fun B1 H1 al1 v P1 S1 r1 => by
    cases r1 with
    | @tup a xs _ s r =>
      refine ⟨a, xs, rfl, .inr (S1.seqT (SqT.of s)), fun l nl => ?_⟩
      obtain ⟨P, S'⟩ := S1.lay (o := .lst xs) nl
      exact q _ _ _ _ (P1.trans P) S' (.rls upd_same (RepAll.mono P.same ds r))
end
end DL
end
section
set_option Elab.async false
set_option linter.all false
set_option maxRecDepth 100000
/-! a comprehension over the dict that stands in an object's field -/
namespace DL
open PySem PySem.Spec PyProof.Rows L2
/-- the dict in a field is locked -/
def FldLk (i : Nat) (f : Str) (m : List (List Int × D)) (K : PySem.W.Frag) (B : Hp) (σ : L2.St) : Prop := ∃ b C dx fs a o kvs, σ[i]? = some (some (.ref b)) ∧ B b = some (.ins C dx fs) ∧ fs.lookup f = some (.ref a) ∧ B a = some (.frz o (.dT kvs)) ∧ RepKv K B kvs m
/-- .. as it is seen from the whole heap -/
def HLk (i : Nat) (f : Str) (σ : L2.St) (H : Hp) : Prop := ∃ b C dx fs a o kvs, σ[i]? = some (some (.ref b)) ∧ H b = some (.ins C dx fs) ∧ fs.lookup f = some (.ref a) ∧ H a = some (.frz o (.dT kvs))
def iKeysF (i : Nat) (f : Str) (te : TE) : TI := fun σ H R => HLk i f σ H → iKeys te σ H R
section
variable {K : PySem.W.Frag} {ss ss1 ss2 : Sl} {mem m1 m2 : List Mc} {te tx : TE} {tt : TT} {g : TG} {vs : List Nat} {d e : D} {r r' x : Vl} {m : List (List Int × D)} {C : Addr} {gs : List (Str × D)} {f : Str}
theorem Sit.lockB {B H : Hp} {al : List Addr} {σ : L2.St} {a : Addr} {o : Obj} {kvs : List (List L2.Key × V)} (S : Sit K B H al σ ss mem) (nl : NoLk ss) (hb : B a = some (.dT kvs)) :
    Sit K (upd B a (.frz o (.dT kvs))) (upd H a (.frz o (.dT kvs))) al σ ss mem := by
  have A := alike_lock (o := o) hb
  refine ⟨fun b u e => ?_, S.len, fun j z e => ?_, S.mlen, fun n c q h1 h2 => ?_, S.nd, fun c h => ?_⟩
  · by_cases hb' : b = a
    · subst hb'
      rw [upd_same] at e ⊢
      exact e
    · rw [upd_ne hb'] at e ⊢
      exact S.sub b u e
  · obtain ⟨v, h1, h2⟩ := S.slot j z e
    exact ⟨v, h1, h2.alike A fun m' z' => nl j m' (by rw [e, z'])⟩
  · refine (S.mem n c q h1 h2).alike (c := a) A (fun z => ?_) fun z => ?_
    · by_cases hc : c = a
      · subst hc
        rw [upd_same] at z
        cases z
      · exact upd_ne hc
    · by_cases hc : c = a
      · subst hc
        rw [hb] at z
        cases z
      · rw [upd_ne hc]
        exact z
  · by_cases hc : c = a
    · subst hc
      rw [upd_same]
      exact fun z => nomatch z
    · rw [upd_ne hc]
      exact S.there c h
/-- where the field's dict stands -/
theorem Sit.fldAt {B H : Hp} {al : List Addr} {σ : L2.St} {i : Nat} (S : Sit K B H al σ ss mem) (hi : ss[i]? = some (some (.dat (.obj C gs)))) (hf : gs.lookup f = some (.dic m)) :
    ∃ b dx fs a kvs, σ[i]? = some (some (.ref b)) ∧ B b = some (.ins C dx fs) ∧ fs.lookup f = some (.ref a) ∧ Rd B a (.dT kvs) ∧ RepKv K B kvs m := by
  obtain ⟨v, h1, h2⟩ := S.slot i _ hi
  cases h2 with
  | @obj b _ dx fs _ s r =>
    obtain ⟨x, e1, e2⟩ := r.look hf
    cases e2 with
    | @dic a kvs _ s2 rk => exact ⟨b, dx, fs, a, kvs, h1, s, e1, s2, rk⟩
/-- a key's tuple is taken into the base -/
theorem key_taken {B H : Hp} {al : List Addr} {σ : L2.St} {q : Addr} {k : List Int} (S : Sit K B H al σ ss mem) (hq : H q = some (.tup ((ik k).map kV))) :
    ∃ B', Stp B H al B' H al ∧ Sit K B' H al σ ss mem ∧ Rep K B' (.ref q) (rowD k) := by
  rcases Option.eq_none_or_eq_some (B q) with nq | ⟨u, nq⟩
  · have sB : Same B (upd B q (.tup ((ik k).map kV))) := fun b u' e => by rw [upd_ne (ne_of_none e nq)]; exact e
    have P : Stp B H al (upd B q (.tup ((ik k).map kV))) H al := by
      refine ⟨sB, fun b u' e _ => e, fun b h => ?_, fun b h => h, [], by rw [List.append_nil], fun _ h => by cases h⟩
      by_cases e : b = q
      · exact .inr (.inr (.inr ⟨_, by rw [e]; exact hq⟩))
      · rw [upd_ne e] at h
        exact .inl h
    refine ⟨_, P, ⟨fun b u' e => ?_, S.len, fun l z e => ?_, S.mlen, fun n c w' g1 g2 => ?_, S.nd, S.there⟩, key_rep upd_same⟩
    · by_cases hb : b = q
      · subst hb
        rw [upd_same] at e
        rw [← e]
        exact hq
      · rw [upd_ne hb] at e
        exact S.sub b u' e
    · obtain ⟨v', v1, v2⟩ := S.slot l z e
      exact ⟨v', v1, v2.step P⟩
    · have g := S.mem n c w' g1 g2
      have hc : (∀ ys, H c ≠ some (.tup ys)) → c ≠ q := fun ht z => ht _ (by rw [z]; exact hq)
      cases w' with
      | gone => trivial
      | lst ds =>
        obtain ⟨b0, xs, g3, g4⟩ := g
        exact ⟨by rw [upd_ne (hc fun ys z => by rw [g3] at z; cases z)]; exact b0, xs, g3, RepAll.mono sB ds g4⟩
      | obj C fs =>
        obtain ⟨b0, dx, fv, g3, g4⟩ := g
        exact ⟨by rw [upd_ne (hc fun ys z => by rw [g3] at z; cases z)]; exact b0, dx, fv, g3, RepFs.mono sB fs g4⟩
      | dic ds =>
        obtain ⟨b0, kv, g3, g4⟩ := g
        exact ⟨by rw [upd_ne (hc fun ys z => by rw [g3] at z; cases z)]; exact b0, kv, g3, RepKv.mono sB ds g4⟩
      | gen φ =>
        obtain ⟨b0, kv, g3, g5, g4⟩ := g
        exact ⟨by rw [upd_ne (hc fun ys z => by rw [g3] at z; exact g5 ys (Option.some.inj z))]; exact b0, kv, g3, g5, fun B2 f => g4 B2 ((Alike.of sB).trans f)⟩
  · have z := S.sub _ _ nq
    rw [hq] at z
    cases z
    exact ⟨B, Stp.refl _ _ _, S, key_rep nq⟩
theorem di_keysF {i : Nat} (hi : ss[i]? = some (some (.dat (.obj C gs)))) (c : Cls K C) (na : NoAttr K C f) (hf : gs.lookup f = some (.dic m)) : DI K (iKeysF i f (tFld K (tVar i) f)) ss mem m.length (fun j => rowD (m.getD j ([], .non)).1) mem := fun B H al σ R S k hl => by
  obtain ⟨b, dx, fs, a, kvs, h1, hb, hl1, s2, h3⟩ := S.fldAt hi hf
  obtain ⟨b', C', dx', fs', a', o, kvs', g1, g2, g3, g4⟩ := hl
  rw [h1] at g1
  cases g1
  have hB := S.sub _ _ hb
  rw [hB] at g2
  cases g2
  rw [hl1] at g3
  cases g3
  have h2 : B a = some (.frz o (.dT kvs)) := by
    rcases s2 with z | ⟨o', z⟩
    · have y := S.sub _ _ z
      rw [g4] at y
      cases y
    · have y := S.sub _ _ z
      rw [g4] at y
      cases y
      exact z
  refine ⟨.ref b, h1, b, C, dx, fs, .ref a, rfl, hB, c, na, hl1, a, o, rfl, .inr ⟨kvs, S.sub _ _ h2, k B H al _ (Stp.refl _ _ _) S fun B1 H1 al1 σ1 ss1 mem1 e1 S1 => ?_⟩⟩
  have h4 : H1 a = some (.frz o (.dT kvs)) := S1.sub _ _ (e1 _ _ h2)
  refine ⟨fun j hj => ⟨⟨h4, by rw [h3.len]; exact hj⟩, fun x H' y => ?_⟩, fun j hj => ⟨h4, by rw [h3.len]; exact hj⟩⟩
  obtain ⟨rfl, kk, w, q, y1, rfl, y2⟩ := y
  obtain ⟨ff, d, z1, rfl, z3⟩ := h3.at y1
  have ef : (m.getD j ([], .non)).1 = ff := by
    rw [List.getD_eq_getElem?_getD, z1]
    rfl
  show ∃ B', _ ∧ _ ∧ Rep K B' (.ref q) (rowD (m.getD j ([], D.non)).1)
  rw [ef]
  exact key_taken S1 y2
/-- while a comprehension walks it, the dict in the field is locked -/
theorem dt_lkF {i : Nat} (hi : ss[i]? = some (some (.dat (.obj C gs)))) (hf : gs.lookup f = some (.dic m)) (nl : NoLk ss) (hr : ∀ m', r ≠ .lk m') (h : DT K (tLc (iKeysF i f (tFld K (tVar i) f)) g tt tx vs) ss mem r m1) : DT K (tLkE (tLc (iKeys (tFld K (tVar i) f)) g tt tx vs)) ss mem r m1 := fun B H al σ Q S k => by
  obtain ⟨b, dx, fs, a, kvs, h1, hb, hl1, s2, h3⟩ := S.fldAt hi hf
  rcases s2 with s | ⟨o, s⟩
  · refine .inl ⟨a, .dT kvs, S.sub _ _ s, trivial, fun od => ?_⟩
    have S2 := S.lockB (o := od) nl s
    have hba : b ≠ a := fun z => by rw [z, s] at hb; cases hb
    have z : tLc (iKeysF i f (tFld K (tVar i) f)) g tt tx vs σ (upd H a (.frz od (.dT kvs))) (fun v H' => H' a = some (.frz od (.dT kvs)) ∧ Q v (upd H' a (.dT kvs))) := by
      refine h _ _ al σ _ S2 fun B' H' al' v' P S' rv => ?_
      obtain ⟨e1, e2, P', sub, A, hm, ht⟩ := S.unlock s P S'
      refine ⟨e2, k _ _ _ v' P' ⟨sub, S.len, fun j z e => ?_, S'.mlen, hm, S'.nd, ht⟩ (rv.alike A hr)⟩
      obtain ⟨w, w1, w2⟩ := S.slot j z e
      exact ⟨w, w1, w2.step P'⟩
    exact z ⟨b, C, dx, fs, a, od, kvs, h1, by rw [upd_ne hba]; exact S.sub _ _ hb, hl1, upd_same⟩
  · exact .inr (h B H al σ _ S k ⟨b, C, dx, fs, a, o, kvs, h1, S.sub _ _ hb, hl1, S.sub _ _ s⟩)
/-- a walk tells what it tells -/
theorem di_same {wi : TI} {n : Nat} {it it' : Nat → D} (h : DI K wi ss mem n it m1) (e : ∀ i, i < n → it i = it' i) : DI K wi ss mem n it' m1 := fun B H al σ R S k =>
  h B H al σ R S fun B1 H1 al1 J P1 S1 wk => k B1 H1 al1 J P1 S1 fun B2 H2 al2 σ2 ss2 mem2 sm S2 => by
    obtain ⟨w1, w2⟩ := wk B2 H2 al2 σ2 ss2 mem2 sm S2
    refine ⟨fun i hi => ⟨(w1 i hi).1, fun x H' y => ?_⟩, w2⟩
    rw [← e i hi]
    exact (w1 i hi).2 x H' y
/-- all(.. for k in o.f) -/
theorem dt_allKeysF {i j : Nat} (hi : ss[i]? = some (some (.dat (.obj C gs)))) (c : Cls K C) (na : NoAttr K C f) (hf : gs.lookup f = some (.dic m)) (nl : NoLk ss) (few : m.length ≤ 16777216) (q : List Int × D → Bool)
    (step : ∀ p ∈ m, DT K tx ((ss.set j none).set j (some (.dat (rowD p.1)))) mem (.dat (.bl (q p))) mem) : DT K (tCB (rAll K) (tCons (tLkE (tLc (iKeys (tFld K (tVar i) f)) (gName j) tYes tx [j])) tNil)) ss mem (.dat (.bl (m.all q))) mem := by
  let z : List Int × D := ([], .non)
  have e : (List.range m.length).map (fun n => D.bl (q (m.getD n z))) = (m.map q).map D.bl := by
    rw [List.map_map]
    have h := range_get z m
    conv => rhs; rw [← h]
    rw [List.map_map]
    rfl
  have lc : DT K (tLkE (tLc (iKeys (tFld K (tVar i) f)) (gName j) tYes tx [j])) ss mem (.dat (.lst ((m.map q).map D.bl))) mem := by
    rw [← e]
    refine dt_lkF hi hf nl (fun _ e => nomatch e) (dt_lcMap (di_keysF hi c na hf) (fun n => .bl (q (m.getD n z))) few fun n hn => ?_)
    exact ⟨_, _, dg_name, by simp, step _ (getD_in hn z)⟩
  have al := dt_all lc
  have e2 : (m.map q).all id = m.all q := by
    rw [List.all_map]
    rfl
  rw [e2] at al
  exact al
end
end DL
end
section
set_option Elab.async false
set_option linter.all false
set_option maxRecDepth 100000
/-! a for whose body may answer, while own objects change; three names at once, own objects among them -/
namespace DL
open PySem PySem.Spec PyProof.Rows L2
section
variable {K : PySem.W.Frag} {ss : Sl} {mem m1 : List Mc} {te : TE}
theorem ds_par3V {r1 r2 r3 : Vl} {i j l : Nat} {tt : TA} (h : DAV K tt ss mem [r1, r2, r3] m1) : DS K (tPar3 i j l tt) ss mem (.nx (((ss.set i (some r1)).set j (some r2)).set l (some r3)) m1) := fun B H al σ Dn S k =>
  h B H al σ _ S fun B1 H1 al1 vs P1 S1 r => by
    match vs, r with
    | [u, v, w], ⟨q1, q2, q3, _⟩ => exact ⟨u, v, w, rfl, k _ _ _ P1 _ (((S1.put fun q e => by cases e; exact q1).put fun q e => by cases e; exact q2).put fun q e => by cases e; exact q3)⟩
/-- what comes of such a loop -/
def OutM (K : PySem.W.Frag) {α : Type} (t : TS) (ss : Sl) (mem : List Mc) (G : α → Sl) (mm : α → List Mc) : α ⊕ Vl → Prop
  | .inl a => DS K t ss mem (.nx (G a) (mm a))
  | .inr r => ∃ m', DS K t ss mem (.rt r m')
theorem ds_forScanM {α β : Type} {tb : TS} {wi : TI} {g : TG} (gd : β → D) (z : β) (l : List β) (ks : List Nat) (G : α → Sl) (mm : α → List Mc) (step : α → β → α ⊕ Vl) (I : α → Prop) (a0 : α) (i0 : I a0) (f0 : wipeS ss ks = G a0) (h : DI K wi (G a0) mem l.length (nthD (l.map gd)) (mm a0))
    (turn : ∀ a, I a → ∀ x ∈ l, ∃ s1 ws, DG K g (G a) (gd x) s1 ws ∧ (∀ a', step a x = .inl a' → I a' ∧ ∃ s', DS K tb s1 (mm a) (.nx s' (mm a')) ∧ wipeS s' ks = G a') ∧ ∀ r, step a x = .inr r → ∃ m', DS K tb s1 (mm a) (.rt r m')) :
    OutM K (tFor wi g tb) ss mem G mm (scan step l a0) := by
  let run : Nat → Option α := runE (stepE step z l) a0
  let f : Nat → Sl := fun i => G ((run i).getD a0)
  let m : Nat → List Mc := fun i => mm ((run i).getD a0)
  have fs : ∀ i a, run i = some a → f i = G a := fun i a e => by
    show G ((run i).getD a0) = _
    rw [e]
    rfl
  have ms : ∀ i a, run i = some a → m i = mm a := fun i a e => by
    show mm ((run i).getD a0) = _
    rw [e]
    rfl
  have nxt : ∀ i c a, run i = some c → run (i + 1) = some a → step c (l.getD i z) = .inl a := fun i c a hc ha => by
    obtain ⟨c', hc', st⟩ := runE_some ha
    obtain rfl : c = c' := Option.some.inj (hc.symm.trans hc')
    unfold stepE at st
    cases q : step c (l.getD i z) with
    | inl a' =>
      rw [q] at st
      cases st
      rfl
    | inr r =>
      rw [q] at st
      cases st
  have inv : ∀ i, i ≤ l.length → ∀ a, run i = some a → I a := fun i => by
    induction i with
    | zero => intro _ a e; cases e; exact i0
    | succ i ih =>
      intro le a e
      obtain ⟨c, hc, -⟩ := runE_some e
      obtain ⟨s1, ws, -, t, -⟩ := turn c (ih (by omega) c hc) (l.getD i z) (getD_in (by omega) z)
      exact (t a (nxt i c a hc e)).1
  have one : ∀ i, i < l.length → ∀ a b, run i = some a → run (i + 1) = some b → ∃ s1 ws, DG K g (G a) (nthD (l.map gd) i) s1 ws ∧ DS K tb s1 (mm a) (.nx (G b) (mm b)) := fun i hi a b e1 e2 => by
    obtain ⟨s1, ws, dg, t, -⟩ := turn a (inv i (by omega) a e1) (l.getD i z) (getD_in hi z)
    rw [nthD_map gd hi z]
    obtain ⟨-, s', d, e⟩ := t b (nxt i a b e1 e2)
    exact ⟨s1, ws, dg, ds_wipe ks d e⟩
  have body : ∀ out, DS K (tFor wi g tb) (G a0) mem out → DS K (tFor wi g tb) ss mem out := fun out d => ds_pre ks f0 d
  unfold OutM
  cases q : scan step l a0 with
  | inl a =>
    refine body _ ?_
    have e := scan_inl (z := z) q
    have fl : f l.length = G a := fs _ a e
    have fm : m l.length = mm a := ms _ a e
    have up : (runE (stepE step z l) a0 l.length).isSome = true := by rw [e]; rfl
    have r := ds_for (ss := f 0) h f m rfl rfl l.length (Nat.le_refl _) (out := .nx (f l.length) (m l.length)) (tb := tb) (g := g) (fun i hi => by
      obtain ⟨a1, h1⟩ := Option.isSome_iff_exists.mp (runE_down up i (by omega))
      obtain ⟨a2, h2⟩ := Option.isSome_iff_exists.mp (runE_down up (i + 1) (by omega))
      obtain ⟨s1, ws, dg, o⟩ := one i hi a1 a2 h1 h2
      rw [fs i a1 h1, fs (i + 1) a2 h2, ms i a1 h1, ms (i + 1) a2 h2]
      exact ⟨s1, ws, dg, .inl o⟩) (.inl ⟨rfl, rfl⟩)
    rw [fl, fm] at r
    exact r
  | inr r =>
    obtain ⟨j, b, hj, h1, h2⟩ := scan_inr (z := z) q
    have up : (runE (stepE step z l) a0 j).isSome = true := by rw [h1]; rfl
    obtain ⟨s1, ws, dg, -, t⟩ := turn b (inv j (by omega) b h1) (l.getD j z) (getD_in hj z)
    obtain ⟨m', t⟩ := t r h2
    refine ⟨m', body _ ?_⟩
    refine ds_for (ss := f 0) h f m rfl rfl j (by omega) (tb := tb) (g := g) (fun i hi => ?_) (.inr ⟨hj, ?_⟩)
    · obtain ⟨a1, q1⟩ := Option.isSome_iff_exists.mp (runE_down up i (by omega))
      obtain ⟨a2, q2⟩ := Option.isSome_iff_exists.mp (runE_down up (i + 1) (by omega))
      obtain ⟨s1, ws, dg, o⟩ := one i (by omega) a1 a2 q1 q2
      rw [fs i a1 q1, fs (i + 1) a2 q2, ms i a1 q1, ms (i + 1) a2 q2]
      exact ⟨s1, ws, dg, .inl o⟩
    · rw [← nthD_map gd hj z, ← fs j b h1] at dg
      rw [← ms j b h1] at t
      exact ⟨s1, ws, dg, .inl ⟨_, _, t, rfl⟩⟩
end
end DL
end
section
set_option Elab.async false
set_option linter.all false
set_option maxRecDepth 100000
/-! == of dicts whose values are data: what stands at the same key is the same -/
namespace DL
open PySem PySem.Spec PyProof.Rows L2
section
variable {P : Program} {w : World} {A : Around} {E : Value → Shared → Prop} {s : Shared} {κ : Type} [DecidableEq κ] {knd : HeapKind P w κ}
def hitK (xs ys : List (κ × Addr × Value)) (i : Nat) : Bool := match xs[i]? with
  | some x => (atKey ys x.1).isSome
  | none => false
theorem pairs_sameD {nm : String} {a b : Addr} {xs ys : List (κ × Addr × Value)} {Q : Bool → Shared → Prop} (la : (a == sysModules) = false) (lb : (b == sysModules) = false) (hu : knd.room A) (da : s.heap.DictOfH knd a xs) (db : s.heap.DictOfH knd b ys)
    (same : ∀ x ∈ xs, ∀ y ∈ ys, x.1 = y.1 → SeqAt.EqAt A s x.2.2 y.2.2 true) (fin : ∀ r, (r = true ↔ xs.length = ys.length ∧ ∀ i < xs.length, hitK xs ys i = true) → Q r s) : wpAny (model P w) A (Builtin.Dict.samePairs nm a b) Q E s := by
  obtain ⟨oa, ea, pa, ga, -, ta, na, ka, -⟩ := da
  obtain ⟨ob, eb, pb, gb, -, tb, nb, kb, ndb⟩ := db
  have sa : ea.size = xs.length := size_of_entries na
  have sb : eb.size = ys.length := size_of_entries nb
  unfold Builtin.Dict.samePairs
  unfold Builtin.Dict.showsAll
  rw [la, lb]
  refine wpAny_bind (wpAny_pure (wpAny_bind (wpAny_pure (wpAny_bind (wpAny_dictEntries ga ta ?_)))))
  dsimp only
  refine wpAny_bind (wpAny_dictEntries gb tb ?_)
  by_cases sz : ea.size = eb.size
  case neg =>
    rw [if_pos (by simpa using sz)]
    refine wpAny_bind (wpAny_rule (wpAny_pure (fin false ⟨(fun z => nomatch z), fun z => absurd z.1 (by rw [← sa, ← sb]; exact sz)⟩)))
  case pos =>
    rw [if_neg (by simp [sz])]
    refine wpAny_bind (wpAny_dictEpoch ga ta (wpAny_bind ?_))
    rw [Std.Legacy.Range.forIn_eq_forIn_range']
    simp only [Nat.div_one, Nat.add_sub_cancel, Nat.sub_zero, Std.Legacy.Range.size]
    refine wpAny_forIn_list _ (fun rest acc s' => s' = s ∧ acc = (none, ()) ∧ ∃ i, rest = List.range' i (ea.size - i) ∧ i ≤ ea.size ∧ ∀ j < i, hitK xs ys j = true) _ ?_ ?_ _ _ ⟨rfl, rfl, 0, rfl, Nat.zero_le _, fun j z => absurd z (Nat.not_lt_zero j)⟩
    · rintro i rest acc s' ⟨rfl, rfl, i', er, le, so⟩
      have lt : i' < ea.size := Decidable.byContradiction fun z => by
        rw [show ea.size - i' = 0 by omega] at er
        exact absurd er (by simp)
      rw [show ea.size - i' = ea.size - (i' + 1) + 1 by omega, List.range'_succ] at er
      obtain ⟨rfl, rfl⟩ := List.cons.inj er
      have lx : i < xs.length := by omega
      obtain ⟨⟨k, c, u⟩, ex⟩ : ∃ x, xs[i]? = some x := ⟨_, List.getElem?_eq_getElem lx⟩
      have mx := List.mem_of_getElem? ex
      refine wpAny_bind (wpAny_dictEntries ga ta ?_)
      rw [entry_at na i, ex]
      have bad : hitK xs ys i = false → Q false s' := fun z => fin false ⟨(fun y => nomatch y), fun y => absurd (y.2 i lx) (by rw [z]; exact Bool.false_ne_true)⟩
      show wpAny _ _ (holding [Value.ref c, u] _ >>= _) _ _ _
      refine wpAny_bind (wpAny_holding (wpAny_bind (wpAny_dictFind_heap hu (ka _ mx) gb tb nb kb ndb (fun miss => ?_) fun j p ej => ?_)))
      · refine wpAny_pure ?_
        show wpAny _ _ (ite ((!false) = true) _ _) _ _ _
        rw [if_pos (by decide)]
        refine wpAny_pure (wpAny_pure (bad ?_))
        unfold hitK
        rw [ex]
        show (atKey ys k).isSome = false
        rw [atKey_none_of_get miss]
        rfl
      · refine wpAny_bind (wpAny_dictEntries gb tb ?_)
        rw [entry_at nb j, ej]
        have hit : hitK xs ys i = true := by
          unfold hitK
          rw [ex]
          show (atKey ys k).isSome = true
          rw [atKey_of_get ndb ej]
          rfl
        refine wpAny_holding (same _ mx _ (List.mem_of_getElem? ej) rfl P w _ _ ?_)
        show wpAny _ _ (ite ((!true) = true) _ _) _ _ _
        rw [if_neg (by decide)]
        refine wpAny_bind (wpAny_dictEpoch ga ta ?_)
        rw [if_neg (by simp)]
        refine wpAny_pure ⟨rfl, rfl, i + 1, rfl, lt, fun j hj => ?_⟩
        rcases Nat.lt_succ_iff_lt_or_eq.mp hj with z | z
        · exact so j z
        · rw [z, hit]
    · rintro acc s' ⟨rfl, rfl, i, er, le, so⟩
      have ei : i = ea.size := Decidable.byContradiction fun z => by
        rw [show ea.size - i = ea.size - (i + 1) + 1 by omega, List.range'_succ] at er
        exact absurd er (by simp)
      subst ei
      exact wpAny_pure (fin true ⟨fun _ => ⟨by omega, fun i hi => so i (by omega)⟩, fun _ => rfl⟩)
end
section
variable {X : Cx}
theorem KT.back {H : Hp} {kvs : List (List L2.Key × V)} {xs : List (List L2.Key × Addr × Value)} (r : KT H kvs xs) : ∀ x ∈ xs, ∃ p ∈ kvs, p.1 = x.1 ∧ RelV p.2 x.2.2 := by
  induction r with
  | nil => exact fun x h => nomatch h
  | @cons p q ps qs a t ih =>
    intro x hx
    rcases List.mem_cons.mp hx with z | z
    · exact ⟨p, List.mem_cons_self, by rw [z]; exact a.1, by rw [z]; exact a.2.2⟩
    · obtain ⟨p2, h1, h2⟩ := ih x z
      exact ⟨p2, List.mem_cons_of_mem _ h1, h2⟩
/-- d == e -/
def rEqDS (K : PySem.W.Frag) : R2 := fun x y H Q => ∃ (a b : Addr) (ks ls : List (List L2.Key × V)), x = .ref a ∧ y = .ref b ∧ Rd H a (.dT ks) ∧ Rd H b (.dT ls) ∧
  (∀ p ∈ ks, ∀ q ∈ ls, p.1 = q.1 → ∃ d, Dp K H p.2 d ∧ Dp K H q.2 d ∧ SeqAt.shaped d = true) ∧ ∀ r, (r = true ↔ ks.length = ls.length ∧ ∀ p ∈ ks, (valV ls p.1).isSome = true) → Q (.bl r) H
theorem op_eqDS (hu : X.A.units + 100 < cLine) : OpR X (compareOp .Eq) (rEqDS X.K) := by
  rintro pins s σ H x y v u Q I rx ry ⟨a, b, ks, ls, rfl, rfl, ra, rb, same, fin⟩
  cases rx
  cases ry
  obtain ⟨_, la, xs, ka, da⟩ := dt_rd I.hok ra
  obtain ⟨_, lb, ys, kb, db⟩ := dt_rd I.hok rb
  refine wpAny_richCompare_same_room (op := .Eq) da.typeIs db.typeIs PySem.F.slot_dict_eq (wpAny_call_entry PySem.F.slot_dict_eq da.typeIs PySem.F.entry_dict_eq ?_ (PySem.F.args_dict_eq_2 _ _)) (by omega)
  change wpAny _ _ (Bind.bind (Builtin.Dict.dictSlotArgs "__eq__" ⟨[.ref a, .ref b], []⟩) _) _ _ s
  unfold Builtin.Dict.dictSlotArgs
  refine wpAny_bind (wpAny_bind (wpAny_notOrdered_dict da.typeIs (wpAny_pure ?_)))
  refine wpAny_bind (wpAny_isInstance (b := true) (T := "dict") db.typeIs PySem.F.sub_dict_dict ?_)
  simp only [if_false, Bool.false_eq_true, Bool.not_true]
  have u64 : X.A.in1.units + 64 < cLine := by
    show X.A.units + 1 + 64 < cLine
    omega
  have vals : ∀ x ∈ xs, ∀ y ∈ ys, x.1 = y.1 → ∀ A : Around, A.units + 64 < cLine → SeqAt.EqAt A s x.2.2 y.2.2 true := fun x hx y hy e A hA => by
    obtain ⟨p, hp, e1, r1⟩ := KT.back ka x hx
    obtain ⟨q, hq, e2, r2⟩ := KT.back kb y hy
    obtain ⟨d, d1, d2, sh⟩ := same p hp q hq (by rw [e1, e2, e])
    obtain ⟨as, g1⟩ := Dp.reads I d _ _ d1 r1
    obtain ⟨bs, g2⟩ := Dp.reads I d _ _ d2 r2
    have z := SeqAt.eqAt_reads d d A s _ _ as bs g1 g2 (SeqAt.canLay_of_shaped sh) (SeqAt.canLay_of_shaped sh) (SeqAt.room_of_shaped sh hA)
    rw [SeqAt.eqv_refl _ (SeqAt.canLay_of_shaped sh)] at z
    exact z
  refine wpAny_bind (wpAny_pure (wpAny_bind (wpAny_pure (wpAny_bind (pairs_sameD la lb (Nat.lt_of_le_of_lt (Nat.le_add_right _ 64) u64) da db (fun x hx y hy e => vals x hx y hy e _ u64) fun r hr => wpAny_pure ⟨_, rfl, (fun z => nomatch z), ?_⟩)))))
  have l1 : ks.length = xs.length := Paired.length ka
  have l2 : ls.length = ys.length := Paired.length kb
  have said : ∀ i p, ks[i]? = some p → hitK xs ys i = (valV ls p.1).isSome := fun i p hi => by
    obtain ⟨x, hx, ex, rx⟩ := KT.nth ka i p hi
    have rel := kb.val p.1
    have eh : hitK xs ys i = (atKey ys p.1).isSome := by
      unfold hitK
      rw [hx, ← ex]
    rw [eh]
    cases q : atKey ys p.1 with
    | none =>
      rw [q] at rel
      cases q2 : valV ls p.1 with
      | none => rfl
      | some v =>
        rw [q2] at rel
        exact rel.elim
    | some y =>
      rw [q] at rel
      cases q2 : valV ls p.1 with
      | none =>
        rw [q2] at rel
        exact rel.elim
      | some v => rfl
  refine ⟨.bl r, H, I, (by cases r <;> rfl), fin r (hr.trans ⟨fun z => ⟨by omega, fun p hp => ?_⟩, fun z => ⟨by omega, fun i hi => ?_⟩⟩)⟩
  · obtain ⟨i, hi⟩ := List.mem_iff_getElem?.mp hp
    rw [← said i p hi]
    exact z.2 i (by have := (List.getElem?_eq_some_iff.mp hi).1; omega)
  · obtain ⟨p, hp⟩ : ∃ p, ks[i]? = some p := ⟨_, List.getElem?_eq_getElem (by omega)⟩
    rw [said i p hp]
    exact z.2 p (List.mem_of_getElem? hp)
theorem opEqDS (K : PySem.W.Frag) (hu : X.A.units + 100 < cLine) (h : X.K = K := by rfl) : OpR X (compareOp .Eq) (rEqDS K) := h ▸ op_eqDS hu
theorem rm100 {k : Nat} {A : Around} (r : Room k A) : A.units + 100 < cLine := by have := r.un; omega
end
section
variable {K : PySem.W.Frag} {ss : Sl} {mem m1 m2 : List Mc} {ta tb te : TE} {x y : Vl} {m n : List (List Int × D)}
theorem kv_mem {B : Hp} : ∀ {m : List (List Int × D)} {kvs : List (List L2.Key × V)}, RepKv K B kvs m → (∀ p ∈ kvs, ∃ q ∈ m, p.1 = ik q.1 ∧ Rep K B p.2 q.2) ∧ ∀ q ∈ m, ∃ p ∈ kvs, p.1 = ik q.1
  | [], _, h => by cases h; exact ⟨(fun p hp => nomatch hp), (fun p hp => nomatch hp)⟩
  | q :: m, _, h => by
    obtain ⟨k, d⟩ := q
    cases h with
    | cons h1 h2 =>
      obtain ⟨a, b⟩ := kv_mem h2
      refine ⟨fun p hp => ?_, fun p hp => ?_⟩
      · rcases List.mem_cons.mp hp with z | z
        · exact ⟨(k, d), List.mem_cons_self, by rw [z], by rw [z]; exact h1⟩
        · obtain ⟨q2, g1, g2⟩ := a p z
          exact ⟨q2, List.mem_cons_of_mem _ g1, g2⟩
      · rcases List.mem_cons.mp hp with z | z
        · exact ⟨_, List.mem_cons_self, by rw [z]⟩
        · obtain ⟨p2, g1, g2⟩ := b p z
          exact ⟨p2, List.mem_cons_of_mem _ g1, g2⟩
theorem valV_has {B : Hp} {k : List Int} : ∀ {m : List (List Int × D)} {kvs : List (List L2.Key × V)}, RepKv K B kvs m → (valV kvs (ik k)).isSome = (getI m k).isSome
  | [], _, h => by cases h; rfl
  | q :: m, _, h => by
    obtain ⟨j, d⟩ := q
    cases h with
    | cons h1 h2 =>
      by_cases e : j = k
      · rw [valV_pos (congrArg ik e)]
        show true = (if j = k then some d else getI m k).isSome
        rw [if_pos e]
        rfl
      · rw [valV_neg fun z => e (ik_inj z), valV_has h2]
        show (getI m k).isSome = (if j = k then some d else getI m k).isSome
        rw [if_neg e]
theorem dt_eqDS {r : Bool} (ha : DT K ta ss mem x m1) (hb : DT K tb ss m1 y m2) (da : IsDic m2 x m) (db : IsDic m2 y n) (flat : ∀ p ∈ m, D.flat 8 p.2 = true) (same : ∀ p ∈ m, ∀ q ∈ n, p.1 = q.1 → p.2 = q.2)
    (hr : r = true ↔ m.length = n.length ∧ ∀ p ∈ m, (getI n p.1).isSome = true) : DT K (tOp (rEqDS K) ta tb) ss mem (.dat (.bl r)) m2 :=
  dt_op ha hb fun B H al σ v w Q S hv hw k => by
    obtain ⟨a, ks, rfl, ra, ka⟩ := dic_at S hv da
    obtain ⟨b, ls, rfl, rb, kb⟩ := dic_at S hw db
    refine ⟨a, b, ks, ls, rfl, rfl, ra, rb, fun p hp q hq e => ?_, fun r2 hr2 => ?_⟩
    · obtain ⟨p2, h1, h2, h3⟩ := (kv_mem ka).1 p hp
      obtain ⟨q2, g1, g2, g3⟩ := (kv_mem kb).1 q hq
      have ek : p2.1 = q2.1 := ik_inj (by rw [← h2, ← g2, e])
      have ed := same p2 h1 q2 g1 ek
      have fl := flat p2 h1
      rw [← ed] at g3
      exact ⟨p2.2.py, Rep.dp S.sub 8 p2.2 h3 fl, Rep.dp S.sub 8 p2.2 g3 fl, flat_shaped fl (by decide)⟩
    · have e : r2 = r := by
        rw [Bool.eq_iff_iff, hr2, hr, kvs_len ka, kvs_len kb]
        refine and_congr_right fun _ => ⟨fun h p hp => ?_, fun h p hp => ?_⟩
        · obtain ⟨p2, g1, g2⟩ := (kv_mem ka).2 p hp
          have z := h p2 g1
          rw [g2, valV_has kb] at z
          exact z
        · obtain ⟨q, g1, g2, -⟩ := (kv_mem ka).1 p hp
          rw [g2, valV_has kb]
          exact h q g1
      rw [e]
      exact k _ _ _ _ (Stp.refl _ _ _) S (.bl _)
end
end DL
end
section
set_option Elab.async false
set_option linter.all false
set_option maxRecDepth 100000
/-! == by an own __eq__, whatever it answers -/
namespace DL
open PySem PySem.Spec PyProof.Rows L2
def rEqOwnB (K : PySem.W.Frag) (C : Addr) (R : List D → D → Prop) : R2 := fun x y H Q => ∃ (a b dx dy : Addr) (fs gs : List (Str × V)) (B : Hp) (d e : D) (r : Bool), x = .ref a ∧ y = .ref b ∧ H a = some (.ins C dx fs) ∧ H b = some (.ins C dy gs) ∧
  Same B H ∧ Rep K B (.ref a) d ∧ Rep K B (.ref b) e ∧ R [d, e] (.bl r) ∧ ∀ H', Ext H H' → Q (.bl r) H'
theorem opEqOwnB {X : Cx} (K : PySem.W.Frag) {C f : Addr} {fd : FuncData} {ps : List Str} {n : Nat} {R : List D → D → Prop} (F : FnOk X.prog X.w X.K X.mg X.base CX0 n f fd ps (spP K 2 R)) (me : Meth X.K C "__eq__" f) (hb : Binds X.K fd ps []) (hr : Room n X.A) (hK : X.K = K := by rfl) :
    OpR X (compareOp .Eq) (rEqOwnB K C R) := by
  subst hK
  rintro pins s σ H x y v u Q I rx ry ⟨a, b, dx, dy, fs, gs, B, d, e, r, rfl, rfl, oa, ob, sub, r1, r2, hR, fin⟩
  cases rx
  cases ry
  obtain ⟨_, ja, _⟩ := ins_get I.hok oa
  obtain ⟨_, jb, _⟩ := ins_get I.hok ob
  obtain ⟨_, ja, _⟩ := ja.look
  obtain ⟨_, jb, _⟩ := jb.look
  obtain ⟨_, fr⟩ := I.fr
  have say : spP X.K 2 R [.ref a, .ref b] H (fun z H' => z = .bl r ∧ Ext H H') E0 := by
    refine ⟨B, [], [.dat d, .dat e], [], .bl r, [], ⟨[d, e], rfl, rfl, rfl, hR⟩, rfl, rfl, pack_slots (ds := [d, e]) sub (.cons r1 (.cons r2 .nil)), fun B' H' z P _ rz => ?_⟩
    cases rz
    exact ⟨rfl, fun c o h => P.frame c o h List.not_mem_nil⟩
  have len := F.len _ _ _ _ say
  have two : Vals [V.ref a, V.ref b] [Value.ref a, Value.ref b] := .cons rfl (.cons rfl .nil)
  show wpAny (model X.prog X.w) X.A (richCompare .Eq (.ref a) (.ref b)) (EP X pins σ Q) X.xe s
  refine PySem.W.cmp_K (op := .Eq) (tb := .ref C) hr.units0 fr I.ok.mod.kin ja jb.type (by simp [PySem.W.notFirst]) me.at_ me.fn (wpAny_call ?_)
  refine codeAny_mono (F.run X.A X.stack s H ⟨[.ref a, .ref b], []⟩ _ _ _ E0 hr I.env0 (by simpa using hb s [.ref a, .ref b] I.kIn (by simpa using len)) two say) fun out s2 got => ?_
  cases out with
  | error er => exact pass0 pins σ H s er s2 I got
  | ok fl =>
    cases fl with
    | next => exact got.elim
    | brk => exact got.elim
    | cont => exact got.elim
    | ret z =>
      obtain ⟨z2, H2, I2, rz, ez, ex⟩ := I.after got
      subst ez
      cases rz
      exact ⟨.bl r, H2, I2, rfl, fin H2 ex⟩
section
variable {K : PySem.W.Frag} {ss : Sl} {mem m1 m2 : List Mc} {ta tb : TE}
theorem dt_eqOwnB {C : Addr} {gs hs : List (Str × D)} {R : List D → D → Prop} {r : Bool} (ha : DT K ta ss mem (.dat (.obj C gs)) m1) (hb : DT K tb ss m1 (.dat (.obj C hs)) m2) (hR : R [.obj C gs, .obj C hs] (.bl r)) : DT K (tOp (rEqOwnB K C R) ta tb) ss mem (.dat (.bl r)) m2 :=
  dt_op ha hb fun B H al σ v w Q S hv hw k => by
    have hv' := hv
    have hw' := hw
    cases hv with
    | @obj a _ dx fs _ ea _ =>
      cases hw with
      | @obj b _ dy gs _ eb _ =>
        refine ⟨a, b, dx, dy, fs, gs, B, _, _, r, rfl, rfl, S.sub _ _ ea, S.sub _ _ eb, S.sub, hv', hw', hR, fun H' e => ?_⟩
        obtain ⟨P2, S2⟩ := S.grown e
        exact k _ _ _ _ P2 S2 (.bl r)
end
end DL
end
section
set_option Elab.async false
set_option linter.all false
set_option maxRecDepth 100000
set_option maxHeartbeats 2000000
/-! tuple * 0 -/
namespace DL
open PySem PySem.Spec PyProof.Rows L2
theorem tuple_never (l : Addr) (items : Array Value) (n : Nat) (dd : Option Addr) (sl : Array (Option Value)) (u : Tok) (some_ : items.isEmpty = false) :
    Meets (Builtin.«tuple.__mul__» ⟨[.ref l, .int 0 u], []⟩) (fun _ R s => s.heap.get? l = some { cls := .type "tuple", dict := dd, data := .seq items n, slots := sl } ∧ R (.ok (.ret (Value.ref s.heap.objs.size))) { s with heap := s.heap.push { cls := .type "tuple", data := .seq #[] }, toks := s.toks }) := .of_wp fun prog w A R s got => by
  obtain ⟨hp, g, d, tk, os⟩ := s
  obtain ⟨at_, fin⟩ := got
  have ix := AutoSeq1.idx_int
  have c0 : (decide ((0 : Int) < -(2 ^ 63)) || decide ((0 : Int) ≥ 2 ^ 63)) = false := by decide
  have c1 : (items.isEmpty || (0 : Int) == 1) = false := by rw [some_]; rfl
  have c2 : (decide ((0 : Int) ≤ 0) || items.isEmpty) = true := by rw [some_]; rfl
  wp_walk using wpAny_loadPart' at_
  repeat (first
    | (refine wpAny_ite_false (decide_eq_false (by rw [c0]; exact Bool.false_ne_true)) ?_; wp_walk using wpAny_loadPart' at_)
    | (refine wpAny_ite_false (decide_eq_false (by rw [c1]; exact Bool.false_ne_true)) ?_; wp_walk using wpAny_loadPart' at_)
    | (refine wpAny_ite_true (decide_eq_true (by rw [c2])) ?_; wp_walk using wpAny_loadPart' at_))
  exact ⟨_, rfl, fin⟩
def rRep0 (K : PySem.W.Frag) : R2 := fun x y H Q => rRepZ K x y H Q ∨ ∃ (l : Addr) (xs : List V), x = .ref l ∧ y = .int 0 ∧ SqT K H l xs ∧ xs ≠ [] ∧ ∀ p, H p = none → Q (.ref p) (upd H p (.tup []))
theorem opRep0 {X : Cx} (K : PySem.W.Frag) (h : X.K = K := by rfl) : OpR X (binaryOp .Mult) (rRep0 K) := by
  subst h
  intro pins s σ H x y v u Q I rx ry got
  rcases got with got | ⟨l, xs, rfl, rfl, sq, ne, fin⟩
  · have z : OpR X (binaryOp .Mult) (rRepZ X.K) := opRepZ X.K rfl
    exact z pins s σ H x y v u Q I rx ry got
  · cases rx
    obtain ⟨t, rfl⟩ := ry
    obtain ⟨its, r, ⟨⟨cls, dd, data, sl⟩, at_, hc, n, hd⟩, -⟩ := I.tuple sq
    simp only at hc hd
    subst hc hd
    have some_ : its.toArray.isEmpty = false := by
      cases its with
      | nil => cases r; exact absurd rfl ne
      | cons a b => rfl
    have nu := I.hok.fresh (Nat.le_refl s.heap.objs.size)
    have J : Inv X pins σ (upd H s.heap.objs.size (.tup [])) { s with heap := s.heap.push { cls := .type "tuple", data := .seq #[] } } :=
      I.laid (t' := s.toks) (fun b o e => Heap.get?_push_of_some _ e) (Nat.le_refl _) ⟨Nat.zero_le _, [], .nil, ⟨_, Heap.get?_push_size _ rfl, rfl, 0, rfl⟩⟩
    exact wpAny_binaryOp_repeat_ref (T := "tuple") (U := "int") (by decide) ⟨_, at_, rfl⟩ (fun s' => typeIs_int s' 0 t) noFill_tuple_mul F.fills_int_mul F.slot_int_rmul repeat_tuple F.slot_int_index.lookup (call_meets F.slot_int_rmul (typeIs_int s 0 t) F.entry_int_rmul (F.args_int_rmul_2 _ _) (int_rmul_tuple 0 t l its.toArray n dd sl) ⟨at_, rfl, ⟨_, at_, rfl⟩, call_meets F.slot_tuple_mul ⟨_, at_, rfl⟩ F.entry_tuple_mul (F.args_tuple_mul_2 _ _) (tuple_never l its.toArray n dd sl t some_) ⟨at_, ⟨.ref s.heap.objs.size, _, J, rfl, fin _ nu⟩⟩⟩)
section
variable {K : PySem.W.Frag} {ss : Sl} {mem m1 m2 : List Mc} {te ta tb : TE}
theorem dt_rep0 {ds : List D} {k : Int} (ha : DT K ta ss mem (.dat (.tup ds)) m1) (hb : DT K tb ss m1 (.dat (.int k)) m2) (h0 : ds ≠ []) (h1 : 0 ≤ k) (h2 : k ≤ 1000) (h3 : ds.length ≤ 1000) : DT K (tOp (rRep0 K) ta tb) ss mem (.dat (.tup (List.replicate k.toNat ds).flatten)) m2 := by
  refine dt_op ha hb fun B H al σ v w Q S hv hw q => ?_
  cases hv with
  | @tup a xs _ a2 a3 =>
    cases hw
    have nx : xs ≠ [] := fun z => by
      subst z
      cases a3
      exact h0 rfl
    have sq := SqT.of (K := K) (S.sub _ _ a2)
    rcases Decidable.em (k = 0) with zero | zero
    · subst zero
      refine .inr ⟨a, xs, rfl, rfl, sq, nx, fun p np => ?_⟩
      obtain ⟨P3, S3⟩ := S.lay (o := .tup []) np
      exact q _ _ _ _ P3 S3 (.tup upd_same .nil)
    · rcases Decidable.em (k = 1) with one | one
      · subst one
        have e : (List.replicate (1 : Int).toNat ds).flatten = ds := by
          show (List.replicate 1 ds).flatten = ds
          simp
        rw [e] at q
        exact .inl (.inr ⟨a, xs, rfl, rfl, sq, q _ _ _ _ (Stp.refl _ _ _) S (.tup a2 a3)⟩)
      · refine .inl (.inl ⟨a, k, xs, rfl, rfl, sq, nx, by omega, h2, by rw [a3.len]; exact h3, fun p np => ?_⟩)
        obtain ⟨P3, S3⟩ := S.lay (o := .tup (List.replicate k.toNat xs).flatten) np
        exact q _ _ _ _ P3 S3 (.tup upd_same (RepAll.mono P3.same _ (a3.times k.toNat)))
end
end DL
end
section
set_option Elab.async false
set_option linter.all false
set_option maxRecDepth 100000
set_option maxHeartbeats 2000000
/-! the next pair of d.items(), whatever became of the pairs before -/
namespace DL
open PySem PySem.Spec PyProof.Rows L2 PySem.W
/-- an items iterator that has handed out the tuple at a -/
abbrev outOb (d : Addr) (i n ep : Nat) (x y : Value) (a : Addr) (f : Bool) : Obj := { cls := .type "dict_itemiterator", dict := none, data := .fields #[rawInt a, .bool f, .ref d, .int i 0, .int n 0, .int ep 0, x, y], slots := #[] }
section
variable {prog : Program} {w : World} {A : Around} {E : Value → Shared → Prop} {s : Shared}
theorem askAlive {a : Addr} {Q : Option Obj → Shared → Prop} (h : Q (s.heap.get? a) s) : wpAny (model prog w) A (loadIfAlive a) Q E s := fun _ _ _ => h
/-- is the tuple free? -/
theorem isFree {it d a : Addr} {f : Bool} {i n ep : Nat} {x y : Value} {Q : Bool → Shared → Prop} (hit : s.heap.get? it = some (outOb d i n ep x y a f))
    (dead : s.heap.get? a = none → Q true s) (alive : ∀ o h', s.heap.get? a = some o → h'.get? it = some (outOb d i n ep x y a true) → Heap.SameBut it s.heap h' → Q false { s with heap := h' }) :
    wpAny (model prog w) A (Builtin.Dict_items.ownedTupleIsFree (.ref it)) Q E s := by
  unfold Builtin.Dict_items.ownedTupleIsFree
  refine wpAny_bind (wpAny_field hit rfl (x := rawInt a) rfl ?_)
  change wpAny _ _ (loadIfAlive (Int.toNat a) >>= _) _ _ _
  rw [Int.toNat_natCast]
  refine wpAny_bind (askAlive ?_)
  cases q : s.heap.get? a with
  | none => exact wpAny_pure (dead q)
  | some o =>
    refine wpAny_bind (wpAny_field hit rfl (x := .bool f) rfl ?_)
    cases f with
    | true => exact wpAny_pure (alive o s.heap q hit (Heap.SameBut.refl _ _))
    | false => exact wpAny_bind (wpAny_setField_rec hit (by simp) fun h₃ he₃ hs₃ => wpAny_pure (alive o h₃ q he₃ hs₃))
/-- a new pair, and the iterator has a tuple out -/
theorem pairOut {it d : Addr} {f : Bool} {a : Addr} {i n ep : Nat} {x y key val : Value} {Q : Value → Shared → Prop} (hit : s.heap.get? it = some (outOb d i n ep x y a f))
    (fin : ∀ h' x' y' a' f', h'.get? it = some (outOb d i n ep x' y' a' f') → h'.get? s.heap.objs.size = some { cls := .type "tuple", data := .seq #[key, val] } → (∀ b o, b ≠ it → s.heap.get? b = some o → h'.get? b = some o) → Q (.ref s.heap.objs.size) { s with heap := h' }) :
    wpAny (model prog w) A (Builtin.Dict_items.pairFromOwner (.ref it) 6 key val) (fun z => Q z) E s := by
  have small : it < s.heap.objs.size := Heap.lt_size hit
  unfold Builtin.Dict_items.pairFromOwner
  refine wpAny_bind (wpAny_newTuple ?_)
  have kept0 : ∀ b o, s.heap.get? b = some o → (s.heap.push { cls := .type "tuple", data := .seq #[key, val] }).get? b = some o := fun b o e => Heap.get?_push_of_some _ e
  have made : (s.heap.push { cls := .type "tuple", data := .seq #[key, val] }).get? s.heap.objs.size = some { cls := .type "tuple", data := .seq #[key, val] } := Heap.get?_push_size _ rfl
  have hit1 := kept0 _ _ hit
  generalize s.heap.push { cls := .type "tuple", data := .seq #[key, val] } = g at kept0 made hit1
  refine wpAny_bind (isFree (s := { s with heap := g }) hit1 (fun _ => ?_) fun o g1 _ out1 same1 => ?_)
  · refine wpAny_bind (wpAny_field (s := { s with heap := g }) hit1 rfl (x := x) rfl ?_)
    refine wpAny_bind (wpAny_field (s := { s with heap := g }) hit1 rfl (x := y) rfl ?_)
    refine wpAny_bind (wpAny_setField_rec (s := { s with heap := g }) hit1 (by simp) fun g2 e2 k2 => ?_)
    refine wpAny_bind (wpAny_setField_rec (s := { s with heap := g2 }) e2 (by simp) fun g3 e3 k3 => ?_)
    refine wpAny_bind (wpAny_setField_rec (s := { s with heap := g3 }) e3 (by simp) fun g4 e4 k4 => ?_)
    refine wpAny_bind (wpAny_setField_rec (s := { s with heap := g4 }) e4 (by simp) fun g5 e5 k5 => ?_)
    have all : ∀ b o, b ≠ it → g.get? b = some o → g5.get? b = some o := fun b o nb e => k5.extBut b o nb (k4.extBut b o nb (k3.extBut b o nb (k2.extBut b o nb e)))
    refine wpAny_bind (wpAny_letGo (wpAny_pure (fin g5 key val s.heap.objs.size false ?_ (all _ _ (Nat.ne_of_gt small) made) fun b o nb e => all b o nb (kept0 b o e))))
    simpa [rawInt, outOb] using e5
  · exact wpAny_pure (fin g1 x y a true out1 (same1.extBut _ _ (Nat.ne_of_gt small) made) fun b o nb e => same1.extBut b o nb (kept0 b o e))
/-- the next pair -/
theorem nextOut {it d : Addr} {f : Bool} {a : Addr} {i ep : Nat} {x y : Value} {es : Array DictEntry} {Q : Option Value → Shared → Prop} (hit : s.heap.get? it = some (outOb d i es.size ep x y a f)) (raw : s.heap.DictRaw d es ep) (lt : i < es.size)
    (fin : ∀ h' x' y' a' f', h'.get? it = some (outOb d (i + 1) es.size ep x' y' a' f') → h'.get? s.heap.objs.size = some { cls := .type "tuple", data := .seq #[es[i].key, es[i].val] } → (∀ b o, b ≠ it → s.heap.get? b = some o → h'.get? b = some o) → Q (some (.ref s.heap.objs.size)) { s with heap := h' }) :
    wpAny (model prog w) A (pyNext (.ref it)) (fun z => Q z) E s := by
  obtain ⟨dob, at_, -, dat⟩ := id raw
  have tyI : s.TypeIs (.ref it) "dict_itemiterator" := ⟨_, hit, rfl⟩
  unfold pyNext
  refine wpAny_bind (wpAny_attempt (wpAny_callSpecial?_slot (name := Str.ofString "__next__") tyI PySem.F.slot_dict_itemiterator_next (wpAny_call_entry PySem.F.slot_dict_itemiterator_next tyI PySem.F.entry_dict_itemiterator_next ?_ (PySem.F.args_dict_itemiterator_next_1 _))))
  have own_ : Builtin.Dict_items.ownsTuple "dict_itemiterator" = true := by decide
  have szI : ¬ ((i : Int) < 0) := by omega
  have get_ : es[i]? = some es[i] := Array.getElem?_eq_getElem lt
  wp_walk using wpAny_fieldsOf hit rfl, wpAny_dictEntries at_ dat, wpAny_dictEpoch at_ dat, wpAny_typeNameOfWhole_itemiter tyI
  simp only [szI, if_false, Int.toNat_natCast, get_]
  refine wpAny_bind (wpAny_bind (wpAny_typeNameOfWhole_itemiter tyI (wpAny_pure (wpAny_bind (wpAny_isOneOf_itemiter tyI ?_)))))
  show wpAny _ _ (setField (.ref it) 3 (rawInt ((i : Int) + 1)) >>= _) _ _ s
  refine wpAny_bind (wpAny_setField_rec hit (by simp) fun g e1 k1 => ?_)
  have on : g.get? it = some (outOb d (i + 1) es.size ep x y a f) := by
    have num : ((i + 1 : Nat) : Int) = (i : Int) + 1 := by omega
    unfold outOb
    rw [num]
    simpa [rawInt] using e1
  have k1 : Heap.SameBut it s.heap g := k1
  have tyG : Shared.TypeIs { s with heap := g } (.ref it) "dict_itemiterator" := ⟨_, on, rfl⟩
  have sz : g.objs.size = s.heap.objs.size := k1.1
  refine wpAny_bind (wpAny_holding (wpAny_bind (wpAny_isOneOf_itemiter tyG (wpAny_bind (wpAny_isOneOf_itemiter tyG ?_)))))
  refine pairOut (s := { s with heap := g }) on fun h' x' y' a' f' on2 new keep => ?_
  rw [sz] at new
  refine wpAny_pure ⟨_, rfl, wpAny_pure ?_⟩
  have z := fin h' x' y' a' f' on2 new fun b o nb e => keep b o nb (k1.extBut b o nb e)
  rw [← sz] at z
  exact z
/-- .. and none is left -/
theorem endOut {it d : Addr} {f : Bool} {a : Addr} {i ep : Nat} {x y : Value} {es : Array DictEntry} {Q : Option Value → Shared → Prop} (calm : A.handled = none) (hit : s.heap.get? it = some (outOb d i es.size ep x y a f)) (raw : s.heap.DictRaw d es ep) (ge : es.size ≤ i)
    (fin : ∀ h', Heap.ExtBut it s.heap h' → Q none { s with heap := h' }) : wpAny (model prog w) A (pyNext (.ref it)) Q E s := wpAny_pyNext_items_end_out_raw calm hit raw ge fin
end
end DL
end
section
set_option Elab.async false
set_option linter.all false
set_option maxRecDepth 100000
set_option maxHeartbeats 2000000
/-! [x for x in o], o's own `__iter__` gives iter(d.items()), d the dict in a field of o -/
namespace DL
open PySem PySem.Spec PyProof.Rows L2
/-- an items iterator, just laid -/
def newIt (it d : Addr) (n ep : Nat) : HO := .ext fun h => IsItemIter h it d 0 n ep .none .none
theorem newIt_ok {P : Program} {w : World} {H : Hp} {h : Heap} {it d : Addr} {n ep : Nat} (e : IsItemIter h it d 0 n ep .none .none) : ObjOk P w H h it (newIt it d n ep) := ⟨e, ⟨_, e⟩, fun h1 h2 q k => k _ q⟩
/-- iter(d.items()) -/
def rIterIt (n : Nat) : List V → Hp → VK → Prop := fun xs H Q => ∃ (p d : Addr) (o : Obj) (kvs : List (List L2.Key × V)) (es : Array DictEntry) (ep : Nat), xs = [.ref p] ∧ H p = some (L2.DX.itemsO p d) ∧ H d = some (.frz o (.dT kvs)) ∧ o.data = .dict es ep ∧ ∀ it, H it = none → n ≤ it → Q (.ref it) (upd H it (newIt it d es.size ep))
/-- the pairs of a dict with tuple keys -/
def ItIT (d : Addr) (o : Obj) (kvs : List (List L2.Key × V)) : It :=
  { go := fun i H => H d = some (.frz o (.dT kvs)) ∧ i < kvs.length
    yld := fun i H x H' => ∃ (t q : Addr) (k : List L2.Key) (v : V), kvs[i]? = some (k, v) ∧ x = .ref t ∧ H t = none ∧ H q = some (.tup (k.map kV)) ∧ H' = upd H t (.tup [.ref q, v])
    stop := fun i H => H d = some (.frz o (.dT kvs)) ∧ kvs.length ≤ i }
theorem ent_pair {X : Cx} {pins : List (Addr × Obj)} {σ : L2.St} {H : Hp} {s : Shared} {d : Addr} {o : Obj} {kvs : List (List L2.Key × V)} {es : Array DictEntry} {ep : Nat} (I : Inv X pins σ H s) (h : H d = some (.frz o (.dT kvs))) (dat : o.data = .dict es ep) :
    s.heap.DictRaw d es ep ∧ es.size = kvs.length ∧ ∀ (i : Nat) k v, kvs[i]? = some (k, v) → ∃ q en, es[i]? = some en ∧ en.key = .ref q ∧ H q = some (.tup (k.map kV)) ∧ RelV v en.val := by
  obtain ⟨at_, -, -, xs, pr, o', es', ep', ho, ex, hdt, he, -⟩ := I.hok d _ h
  obtain rfl : o = o' := Option.some.inj (at_.symm.trans ho)
  rw [dat] at hdt
  cases hdt
  have n1 := size_of_entries he
  have n2 : kvs.length = xs.length := Paired.length pr
  refine ⟨⟨o, at_, ex, dat⟩, n1.trans n2.symm, fun i k v e => ?_⟩
  obtain ⟨b, hb, e1, e2, rel⟩ := paired_get pr e
  have q := entry_at he i
  rw [hb] at q
  exact ⟨_, _, q, rfl, e2, rel⟩
section
variable {X : Cx}
theorem call_iterIt : CallR X (.builtin "iter") (rIterIt X.base.objs.size) := by
  rintro pins s σ H xs us Q I rel ⟨p, d, o, kvs, es, ep, rfl, hp, hd, dat, fin⟩
  obtain ⟨_, rfl, ru⟩ := rel.one
  cases ru
  have view : s.heap.IsItemsView p d := (show ObjOk X.prog X.w H s.heap p (L2.DX.itemsO p d) from I.hok p _ hp).1
  obtain ⟨raw, -, -⟩ := ent_pair I hd dat
  refine Calls.call_function_entry (by decide +kernel) (by decide +kernel) (PySem.W.kdk_entry_iter) (PySem.W.kdk_args_iter _) ?_
  unfold Builtin.«iter»
  refine wpAny_bind (m := someArgs "iter" 1 2 _) (wpAny_of_eq (a := [Value.ref p]) (by first | rfl | kernel_rfl!) ?_)
  refine (?_ : wpAny _ _ (pyIter (.ref p) >>= _) _ _ _)
  refine wpAny_bind (wpAny_pyIter_items_raw view raw (wpAny_pure ⟨_, rfl, ?_⟩))
  exact ⟨.ref s.heap.objs.size, _, I.laid (t' := s.toks) (fun b u e => Heap.get?_push_of_some _ e) (Nat.le_refl _) (newIt_ok (Heap.get?_push_size _ rfl)), rfl, fin _ (I.hok.fresh (Nat.le_refl _)) (Nat.le_trans I.ok.bsz I.sz)⟩
theorem turnIT {P : Program} {w : World} {K : PySem.W.Frag} {nm : Str} {np : Pos} {d : Addr} {o : Obj} {es : Array DictEntry} {ep : Nat} {kvs : List (List L2.Key × V)} (it : Addr) (dat : o.data = .dict es ep) :
    Turn P w K (.Name nm np) (ItIT d o kvs) [it] it (fun i h => (∃ x y, IsItemIter h it d i es.size ep x y) ∨ ∃ x y a f, h.get? it = some (outOb d i es.size ep x y a f)) :=
  { mem := List.mem_singleton.mpr rfl
    obj := fun i h st b hb => by
      obtain rfl := List.mem_singleton.mp hb
      rcases st with ⟨x, y, st⟩ | ⟨x, y, a, f, st⟩
      · exact ⟨_, st, fun v z => nomatch z⟩
      · exact ⟨_, st, fun v z => nomatch z⟩
    keep := fun i h h' st k => by
      rcases st with ⟨x, y, st⟩ | ⟨x, y, a, f, st⟩
      · exact .inl ⟨x, y, k it (List.mem_singleton.mpr rfl) _ st⟩
      · exact .inr ⟨x, y, a, f, k it (List.mem_singleton.mpr rfl) _ st⟩
    self := fun A i s Q E st h => by
      have ty : s.TypeIs (.ref it) "dict_itemiterator" := by
        rcases st with ⟨x, y, st⟩ | ⟨x, y, a, f, st⟩
        · exact ⟨_, st, rfl⟩
        · exact ⟨_, st, rfl⟩
      refine wpAny_pyIter_slot ty PySem.F.slot_dict_itemiterator_iter (wpAny_call_entry PySem.F.slot_dict_itemiterator_iter ty PySem.W.kcp_entry ?_ (PySem.F.args_dict_itemiterator_iter_1 _))
      exact wpAny_pure ⟨_, rfl, "dict_itemiterator", _, ty, PySem.F.slot_dict_itemiterator_next.lookup, h⟩
    item := fun X hP hw hK hc i pins s σ H E I hf st hg => by
      subst hP hw hK
      obtain ⟨raw, sz, ent⟩ := ent_pair I hg.1 dat
      obtain ⟨q, en, hen, hk, hq, rel⟩ := ent i _ _ (List.getElem?_eq_getElem hg.2)
      have lt : i < es.size := by rw [sz]; exact hg.2
      have ek : es[i] = en := by
        rw [Array.getElem?_eq_getElem lt] at hen
        exact Option.some.inj hen
      have after : ∀ h' x' y' a' f', h'.get? it = some (outOb d (i + 1) es.size ep x' y' a' f') → h'.get? s.heap.objs.size = some { cls := .type "tuple", data := .seq #[es[i].key, es[i].val] } → (∀ b ob, b ≠ it → s.heap.get? b = some ob → h'.get? b = some ob) →
          ∃ v, some (Value.ref s.heap.objs.size) = some v ∧ wpAny (model X.prog X.w) X.A (letOwnedTupleGo (.Name nm np) (.ref it) v) (fun _ s2 => ∃ x H', Inv X pins σ H' s2 ∧ RelV x v ∧ (ItIT d o kvs).yld i H x H' ∧ ((∃ x y, IsItemIter s2.heap it d (i + 1) es.size ep x y) ∨ ∃ x y a f, s2.heap.get? it = some (outOb d (i + 1) es.size ep x y a f)) ∧ ∀ b ∈ [it], H' b = none) E { s with heap := h' } := fun h' x' y' a' f' out new keep => by
        rw [ek, hk] at new
        have nT : H s.heap.objs.size = none := I.hok.fresh (Nat.le_refl _)
        have ok : ObjOk X.prog X.w (upd H s.heap.objs.size (.tup [.ref q, kvs[i].2])) h' s.heap.objs.size (.tup [.ref q, kvs[i].2]) := ⟨by rw [sizeLine_eq]; show 2 ≤ 16777216; omega, [Value.ref q, en.val], .cons rfl (.cons rel .nil), ⟨_, new, rfl, 0, rfl⟩⟩
        have I2 := I.turnedNew (t' := s.toks) (ch := [it]) (fun b ob hb e => keep b ob (fun z => hb (List.mem_singleton.mpr z)) e) hf (Nat.le_refl _) ok
        have itl : it ≠ s.heap.objs.size := by
          rcases st with ⟨x, y, st⟩ | ⟨x, y, a, f, st⟩
          · exact Nat.ne_of_lt (Heap.lt_size st)
          · exact Nat.ne_of_lt (Heap.lt_size st)
        refine ⟨_, rfl, (wpAny_pure ?_ : wpAny _ _ (pure ()) _ _ _)⟩
        refine ⟨.ref s.heap.objs.size, _, I2, rfl, ⟨s.heap.objs.size, q, kvs[i].1, kvs[i].2, List.getElem?_eq_getElem hg.2, rfl, nT, hq, rfl⟩, .inr ⟨x', y', a', f', out⟩, fun b hb => ?_⟩
        rw [List.mem_singleton.mp hb, upd_ne itl]
        exact (hf it (List.mem_singleton.mpr rfl)).1
      rcases st with ⟨x, y, st⟩ | ⟨x, y, a, f, st⟩
      · exact wpAny_pyNext_items_item_raw st raw lt fun h' out new _ keep => after h' _ _ _ false out new keep
      · exact nextOut st raw lt fun h' x' y' a' f' out new keep => after h' x' y' a' f' out new keep
    done := fun X hP hw hK hc i pins s σ H E I hf st hg => by
      subst hP hw hK
      obtain ⟨f0, f1, f2, f3, f4, f5⟩ := hf it (List.mem_singleton.mpr rfl)
      obtain ⟨raw, sz, -⟩ := ent_pair I hg.1 dat
      have ge : es.size ≤ i := by rw [sz]; exact hg.2
      have fin : ∀ h', Heap.ExtBut it s.heap h' → Inv X pins σ H { s with heap := h' } := fun h' eb => (I.turned (t' := s.toks) (fun b ob hb e => eb b ob hb e) f0 f1 f3 f4 f5)
      rcases st with ⟨x, y, st⟩ | ⟨x, y, a, f, st⟩
      · exact wpAny_pyNext_items_end_raw (I.ok.hd hc) st raw ge fun h' eb => ⟨rfl, fin h' eb⟩
      · exact endOut (I.ok.hd hc) st raw ge fun h' eb => ⟨rfl, fin h' eb⟩ }
end

/-! an own `__iter__` that gives iter(self.f.items()) -/
/-- a heap of so many places -/
def padTo (h : Heap) (n : Nat) : Heap := { h with objs := h.objs ++ Array.replicate (n - h.objs.size) { cls := .type "x", data := .freed } }
theorem padTo_size {h : Heap} {n : Nat} (le : h.objs.size ≤ n) : (padTo h n).objs.size = n := by
  simp only [padTo, Array.size_append, Array.size_replicate]
  omega
theorem padTo_get {h : Heap} {n : Nat} {b : Addr} : (padTo h n).get? b = h.get? b := by
  unfold Heap.get? padTo
  by_cases lt : b < h.objs.size
  · rw [Array.getElem?_append_left lt]
  · have ge : h.objs.size ≤ b := Nat.le_of_not_lt lt
    rw [Array.getElem?_append_right ge, Array.getElem?_eq_none ge]
    by_cases q : b - h.objs.size < n - h.objs.size
    · simp [Array.getElem?_replicate, q]
    · simp [Array.getElem?_replicate, q]
theorem frames_pad {h base base' : Heap} (e : ∀ b, base'.get? b = base.get? b) : ∀ {l : List Env}, h.FunFrames base l → h.FunFrames base' l
  | [], _ => trivial
  | _ :: _, ⟨hk, ⟨L, o, hf, hn, ho, hd⟩, hr⟩ => ⟨hk, ⟨L, o, hf, (e L).trans hn, ho, hd⟩, frames_pad e hr⟩
/-- what is fixed may be given more places -/
theorem env0_pad {P : Program} {w : World} {K : PySem.W.Frag} {mg : Str → Option Value} {base : Heap} {A : Around} {outer : List Env} {s : Shared} {H : Hp} (e0 : Env0 P w K mg base A outer s H) : Env0 P w K mg (padTo base s.heap.objs.size) A outer s H := by
  have k : ∀ b o, base.get? b = some o → (padTo base s.heap.objs.size).get? b = some o := fun b o e => padTo_get.trans e
  obtain ⟨mb, b1, b2⟩ := e0.mod.blt
  exact ⟨e0.frames, ⟨e0.mod.kin.keeps k, e0.mod.glob.keeps k, ⟨mb, b1.keeps k, b2⟩, e0.mod.nolimit.keeps k⟩, fun b o e => e0.bs b o (padTo_get.symm.trans e), Nat.le_of_eq (padTo_size e0.bsz), frames_pad (fun b => padTo_get) e0.funs, e0.frf, e0.hok, e0.bare⟩
def spItI (C : Addr) (f : Str) (n : Nat) : Sp := fun vs H Q _ => ∃ a dx fs d o kvs es ep, vs = [.ref a] ∧ H a = some (.ins C dx fs) ∧ fs.lookup f = some (.ref d) ∧ H d = some (.frz o (.dT kvs)) ∧ o.data = .dict es ep ∧
  ∀ p it, H p = none → it ≠ p → H it = none → n ≤ it → Q (.ref it) (upd (upd H p (L2.DX.itemsO p d)) it (newIt it d es.size ep))
/-- [.. for x in o] -/
def tiOI (C : Addr) (f : Str) (te : TE) : TI := fun σ H R => te σ H fun x H1 => ∃ a dx fs d o kvs, x = .ref a ∧ H1 a = some (.ins C dx fs) ∧ fs.lookup f = some (.ref d) ∧ H1 d = some (.frz o (.dT kvs)) ∧
  ∀ p, H1 p = none → R (ItIT d o kvs) (upd H1 p (L2.DX.itemsO p d))
section
variable {X : Cx}
theorem pi_OI {C fi : Addr} {f : Str} {n : Nat} {fdI : FuncData} {psI : List Str} {CI : CXT} {EI : XK} {e : Expr} {te : TE} {nm : Str} {np : Pos} (hw : Meth X.K C "__iter__" fi) (FI : ∀ base, FnOk X.prog X.w X.K X.mg base CI n fi fdI psI (spItI C f base.objs.size)) (bI : Binds X.K fdI psI []) (xI : Passes CI X EI) (hr : Room n X.A) (he : PE X e te) :
    PI X (.Name nm np) e (tiOI C f te) := ⟨fun pins s σ H R I q => thn (he.run pins s σ H _ I q) fun v s1 got => by
  obtain ⟨x, H1, I1, rx, a, dx, fs, d, o, kvs, rfl, ha, hf, hd, fin⟩ := got
  obtain ⟨at0, -, -, xs, pr, o', es, ep, ho', ex, dat, he, -⟩ := I1.hok d _ hd
  obtain rfl : o = o' := Option.some.inj (at0.symm.trans ho')
  cases rx
  obtain ⟨mA, J, _⟩ := ins_get I1.hok ha
  obtain ⟨od, J, _⟩ := J.look
  obtain ⟨m0, hF⟩ := I1.fr
  refine PySem.W.owit_iter hF I1.ok.mod.kin J hw.at_ hw.fn ?_
  have hspI : spItI C f (padTo X.base s1.heap.objs.size).objs.size [.ref a] H1 (fun v H' => ∃ p it, v = .ref it ∧ H1 p = none ∧ it ≠ p ∧ H1 it = none ∧ s1.heap.objs.size ≤ it ∧ H' = upd (upd H1 p (L2.DX.itemsO p d)) it (newIt it d es.size ep)) EI :=
    ⟨a, dx, fs, d, o, kvs, es, ep, rfl, ha, hf, hd, dat, fun p it h1 h2 h3 h4 => ⟨p, it, rfl, h1, h2, h3, by rw [padTo_size (Nat.le_trans I1.ok.bsz I1.sz)] at h4; exact h4, rfl⟩⟩
  have hl := (FI _).len _ _ _ _ hspI
  have rel1 : Vals [V.ref a] [Value.ref a] := .cons rfl .nil
  refine wpAny_call (codeAny_mono ((FI _).run X.A X.stack _ _ ⟨[.ref a], []⟩ [.ref a] [.ref a] _ EI hr (env0_pad I1.env0) (by
    have := bI s1 [.ref a] I1.kIn hl
    exact this) rel1 hspI) fun r s' hq' => ?_)
  cases r with
  | error e => exact (xI pins σ _ _ e s' I1 hq')
  | ok fl =>
    cases fl with
    | next => exact False.elim hq'
    | brk => exact False.elim hq'
    | cont => exact False.elim hq'
    | ret u =>
      obtain ⟨v, H', I', rv, p, it, ev, np_, nip, nit, low, eH⟩ := I1.after hq'
      subst ev
      rw [eH] at I'
      cases rv
      have at_ : (newIt it d es.size ep) = .ext _ := rfl
      have ok : IsItemIter s'.heap it d 0 es.size ep .none .none := (I'.hok it _ upd_same).1
      have hT : s'.TypeIs (.ref it) "dict_itemiterator" := ⟨_, ok, rfl⟩
      show PySem.W.OwitIt _ _ _ _ _ _
      unfold PySem.W.OwitIt
      refine wpAny_specialOf (name := Str.ofString "__next__") hT PySem.F.slot_dict_itemiterator_next.lookup ?_
      have I2 := ItX.inv_drop I' (a := it) upd_same
      have F2 := ItX.inv_fp I' (a := it) upd_same (Nat.le_trans I1.sz low)
      have nn : upd H1 p (L2.DX.itemsO p d) it = none := by rw [upd_ne nip]; exact nit
      rw [ItX.dropH_upd nn] at I2 F2
      exact ⟨it, [it], _, _, _, rfl, I2, turnIT it dat, .inl ⟨_, _, ok⟩, fun b hb => by rw [List.mem_singleton.mp hb]; exact F2, fin p np_⟩⟩
end
end DL
end
section
set_option Elab.async false
set_option linter.all false
set_option maxRecDepth 100000
set_option maxHeartbeats 1000000
/-! for x in o, o's own `__iter__` gives iter(self.f.g), a tuple -/
namespace DL
open PySem PySem.Spec PyProof.Rows L2
/-- a tuple's iterator, just laid -/
def itT (it l : Addr) : HO := .ext fun h => h.IsTupleIter it l 0
theorem itT_ok {P : Program} {w : World} {H : Hp} {h : Heap} {it l : Addr} (e : h.IsTupleIter it l 0) : ObjOk P w H h it (itT it l) := ⟨e, let ⟨o, y, _⟩ := e; ⟨o, y⟩, fun _ _ q k => q.at fun o z => k o z⟩
def rIterT (K : PySem.W.Frag) (n : Nat) : List V → Hp → VK → Prop := fun xs H Q => ∃ (l : Addr) (zs : List V), xs = [.ref l] ∧ SqT K H l zs ∧ ∀ it, H it = none → n ≤ it → Q (.ref it) (upd H it (itT it l))
def spItT (K : PySem.W.Frag) (C C2 : Addr) (f g : Str) (n : Nat) : Sp := fun vs H Q _ => ∃ a dx fs b dx2 fs2 l zs, vs = [.ref a] ∧ H a = some (.ins C dx fs) ∧ fs.lookup f = some (.ref b) ∧ H b = some (.ins C2 dx2 fs2) ∧ fs2.lookup g = some (.ref l) ∧ SqT K H l zs ∧
  ∀ it, H it = none → n ≤ it → Q (.ref it) (upd H it (itT it l))
def tiOT (K : PySem.W.Frag) (C C2 : Addr) (f g : Str) (te : TE) : TI := fun σ H R => te σ H fun x H1 => ∃ a dx fs b dx2 fs2 l zs, x = .ref a ∧ H1 a = some (.ins C dx fs) ∧ fs.lookup f = some (.ref b) ∧ H1 b = some (.ins C2 dx2 fs2) ∧ fs2.lookup g = some (.ref l) ∧ SqT K H1 l zs ∧ R (Itt K l) H1
section
variable {X : Cx}
theorem call_iterT : CallR X (.builtin "iter") (rIterT X.K X.base.objs.size) := by
  rintro pins s σ H xs us Q I rel ⟨l, zs, rfl, sq, fin⟩
  obtain ⟨_, rfl, ru⟩ := rel.one
  cases ru
  obtain ⟨its, -, tup, -⟩ := I.tuple sq
  refine Calls.call_function_entry (by decide +kernel) (by decide +kernel) (PySem.W.kdk_entry_iter) (PySem.W.kdk_args_iter _) ?_
  unfold Builtin.«iter»
  refine wpAny_bind (m := someArgs "iter" 1 2 _) (wpAny_of_eq (a := [Value.ref l]) ?told ?_)
  case told => first | rfl | kernel_rfl!
  refine (?_ : wpAny _ _ (pyIter (.ref l) >>= _) _ _ _)
  refine wpAny_bind ((begins_tuple l its.toArray).iter _ _ _ _ _ _ tup (wpAny_pure ⟨_, rfl, ?_⟩))
  exact ⟨.ref s.heap.objs.size, _, I.laid (t' := s.toks) (fun b u e => Heap.get?_push_of_some _ e) (Nat.le_refl _) (itT_ok ⟨_, Heap.get?_push_size _ rfl, rfl, rfl⟩), rfl, fin _ (I.hok.fresh (Nat.le_refl _)) (Nat.le_trans I.ok.bsz I.sz)⟩
theorem pi_OT {C C2 fi : Addr} {f g : Str} {n : Nat} {fdI : FuncData} {psI : List Str} {CI : CXT} {EI : XK} {e tg : Expr} {te : TE} (K : PySem.W.Frag) (hw : Meth X.K C "__iter__" fi) (FI : ∀ base, FnOk X.prog X.w X.K X.mg base CI n fi fdI psI (spItT X.K C C2 f g base.objs.size)) (bI : Binds X.K fdI psI []) (xI : Passes CI X EI) (hr : Room n X.A) (he : PE X e te) (hK : X.K = K := by rfl) :
    PI X tg e (tiOT K C C2 f g te) := hK ▸ ⟨fun pins s σ H R I q => thn (he.run pins s σ H _ I q) fun v s1 got => by
  obtain ⟨x, H1, I1, rx, a, dx, fs, b, dx2, fs2, l, zs, rfl, ha, hf, hb, hg, sq, fin⟩ := got
  cases rx
  obtain ⟨mA, J, _⟩ := ins_get I1.hok ha
  obtain ⟨od, J, _⟩ := J.look
  obtain ⟨m0, hF⟩ := I1.fr
  refine PySem.W.owit_iter hF I1.ok.mod.kin J hw.at_ hw.fn ?_
  have said : spItT X.K C C2 f g (padTo X.base s1.heap.objs.size).objs.size [.ref a] H1 (fun v H' => ∃ it, v = .ref it ∧ H1 it = none ∧ s1.heap.objs.size ≤ it ∧ H' = upd H1 it (itT it l)) EI :=
    ⟨a, dx, fs, b, dx2, fs2, l, zs, rfl, ha, hf, hb, hg, sq, fun it h1 h2 => ⟨it, rfl, h1, by rw [padTo_size (Nat.le_trans I1.ok.bsz I1.sz)] at h2; exact h2, rfl⟩⟩
  have one := (FI _).len _ _ _ _ said
  have bound : BindsTo s1 fdI ⟨[.ref a], []⟩ (psI.zip [.ref a]) := by simpa using bI s1 [.ref a] I1.kIn (by simpa using one)
  refine wpAny_call (codeAny_mono ((FI _).run X.A X.stack _ _ ⟨[.ref a], []⟩ [.ref a] [.ref a] _ EI hr (env0_pad I1.env0) bound (.cons rfl .nil) said) fun r s' z => ?_)
  match r, z with
  | .error err, z => exact xI pins σ _ _ err s' I1 z
  | .ok (.ret u), z =>
    obtain ⟨v, H', I', rv, it, ev, nit, low, eH⟩ := I1.after z
    subst ev
    subst eH
    cases rv
    have here : s'.heap.IsTupleIter it l 0 := (show ObjOk X.prog X.w _ s'.heap it (.ext fun h => h.IsTupleIter it l 0) from I'.hok it _ upd_same).1
    have hT : s'.TypeIs (.ref it) "tuple_iterator" := here.typeIs
    show PySem.W.OwitIt _ _ _ _ _ _
    unfold PySem.W.OwitIt
    refine wpAny_specialOf (name := Str.ofString "__next__") hT PySem.F.slot_tuple_iterator_next.lookup ?_
    have I2 := ItX.inv_drop I' (a := it) upd_same
    have F2 := ItX.inv_fp I' (a := it) upd_same (Nat.le_trans I1.sz low)
    rw [ItX.dropH_upd nit] at I2 F2
    exact ⟨it, [it], _, _, _, rfl, I2, turn_tuple l it, here, fun c hc => by rw [List.mem_singleton.mp hc]; exact F2, fin⟩⟩
end
section
variable {K : PySem.W.Frag} {ss : Sl} {mem m1 : List Mc} {te : TE} {C C2 : Addr} {gs gs2 : List (Str × D)} {f g : Str} {ds : List D} {p : Nat}
/-- the walk, o own -/
theorem di_OTM (h : DT K te ss mem (.own p) m1) (hm : m1[p]? = some (.obj C gs)) (hf : gs.lookup f = some (.obj C2 gs2)) (hg : gs2.lookup g = some (.tup ds)) : DI K (tiOT K C C2 f g te) ss mem ds.length (nthD ds) m1 := fun B H al σ R S k =>
  h B H al σ _ S fun B1 H1 al1 v P1 S1 r1 => by
    obtain ⟨a, a1, rfl⟩ := r1
    obtain ⟨-, dx, fv, ha, rf⟩ := S1.mem p a _ a1 hm
    obtain ⟨u, hu, ru⟩ := rf.look hf
    cases ru with
    | @obj b _ dx2 fs2 _ hb rf2 =>
      obtain ⟨x, hx, rx⟩ := rf2.look hg
      cases rx with
      | @tup l xs _ s r =>
        have s := SqT.of (K := K) s
        refine ⟨a, dx, fv, b, dx2, fs2, l, xs, rfl, ha, hu, S1.sub _ _ hb, hx, S1.seqT s, k _ _ _ _ P1 S1 fun B2 H2 al2 σ2 ss2 mem2 e2 S2 => ?_⟩
        have s1 : SqT K H2 l xs := S2.seqT (sameT e2 s)
        refine ⟨fun i hi => ?_, fun i hi => ⟨xs, s1, by rw [r.len]; exact hi⟩⟩
        obtain ⟨v, h1, h2⟩ := r.get (nthD_get hi)
        refine ⟨⟨xs, v, s1, h1⟩, fun x H' y => ?_⟩
        obtain ⟨rfl, y⟩ := y
        cases h1.symm.trans (y xs s1)
        exact ⟨B2, Stp.refl _ _ _, S2, Rep.mono e2 _ h2⟩
end
/-! words: a method that raises -/
section
variable {X : Cx} {CX : CXT} {k : Nat} {f C : Addr} {fd : FuncData} {ps : List Str} {sp : Sp} {E : L2.St → XK} {m : Str} {pos apos : Pos} {e o : Expr} {es : List Expr} {ta : TE} {t : TA}
theorem pe_methS0 {pl : Sem Bool} (he : PE X o ta) (c : Cls X.K C) (hm : Meth X.K C m f) (F : FnOk X.prog X.w X.K X.mg X.base CX k f fd ps sp) (hr : Room k X.A) (hb : Binds X.K fd ps []) (hx : ∀ σ, PassesAt CX X σ (E σ))
    (text : eval (.Call (.Attribute o m apos) [] [] pos) X.env = (do let ov ← eval o X.env; standAt apos.atName; let (g, self) ← holding [ov] (getMethod ov m pl); callWith pos g self (backTo pos (starEach [] X.env)) (backToKw pos (keywordEach [] X.env))) := by rfl) :
    PE X (.Call (.Attribute o m apos) [] [] pos) (tMethS C m sp E ta tNil) := ⟨fun pins s σ H Q I wish => by
  refine PySem.W.methodCall_KW (pl := pl) (thn (he.run pins s σ H _ I wish) fun u s1 came => ?_) text
  obtain ⟨x, H1, I1, rx, a, dx, fs, ex, ea, l, q⟩ := came
  subst ex
  cases rx
  refine getmeth_ok I1 ea c hm l ?_
  exact PySem.W.callWith_K0 (first := [.ref a]) I1.kIn hm.kp (run_fnS (us := [.ref a]) (vs := [.ref a]) F hr hb (hx σ) I1 (.cons rfl .nil) q)⟩
end
end DL
end
section
set_option Elab.async false
set_option linter.all false
set_option maxRecDepth 100000
set_option maxHeartbeats 1000000
/-! new own objects: C(..); a method that gives one -/
namespace DL
open PySem PySem.Spec PyProof.Rows L2
section
variable {K : PySem.W.Frag} {ss : Sl} {mem m1 m2 : List Mc} {ta te : TE} {t : TA} {d : D}
/-- what is new is the caller's own -/
theorem Sit.gain {B H B' H' : Hp} {al : List Addr} {σ : L2.St} {a : Addr} {m : Mc} (P : Stp B H al B' H' al) (S : Sit K B' H' al σ ss m1) (fresh : H a = none) (nal : a ∉ al) (at_ : H' a ≠ none) (hm : McOk K B' H' a m) :
    Stp B H al B' H' (al ++ [a]) ∧ Sit K B' H' (al ++ [a]) σ ss (m1 ++ [m]) ∧ VlOk K B' (al ++ [a]) (.ref a) (.own m1.length) := by
  have P3 : Stp B H al B' H' (al ++ [a]) := ⟨P.same, P.frame, P.fresh, P.stay, [a], rfl, fun c hc => List.mem_singleton.mp hc ▸ fresh⟩
  have P4 : Stp B' H' al B' H' (al ++ [a]) → True := fun _ => trivial
  have at1 : (al ++ [a])[m1.length]? = some a := by
    rw [← S.mlen, List.getElem?_append_right (Nat.le_refl _), Nat.sub_self]
    rfl
  refine ⟨P3, ⟨S.sub, S.len, fun i r e => ?_, ?_, fun l c q e1 e2 => ?_, ?_, fun c hc => ?_⟩, a, at1, rfl⟩
  · obtain ⟨v, h1, h2⟩ := S.slot i r e
    refine ⟨v, h1, ?_⟩
    cases r with
    | dat d => exact h2
    | own n =>
      obtain ⟨x, x1, x2⟩ := h2
      exact ⟨x, by rw [List.getElem?_append_left (List.getElem?_eq_some_iff.mp x1).1]; exact x1, x2⟩
    | tl ds => exact h2
    | lk ds => exact h2
  · rw [List.length_append, List.length_append, S.mlen]
    rfl
  · rcases Nat.lt_or_ge l al.length with lt | ge
    · rw [List.getElem?_append_left lt] at e1
      rw [List.getElem?_append_left (S.mlen ▸ lt)] at e2
      exact S.mem l c q e1 e2
    · have up := (List.getElem?_eq_some_iff.mp e1).1
      rw [List.length_append, List.length_singleton] at up
      obtain rfl : l = al.length := by omega
      rw [List.getElem?_append_right (Nat.le_refl _), Nat.sub_self] at e1
      rw [List.getElem?_append_right (by rw [S.mlen]; exact Nat.le_refl _), S.mlen, Nat.sub_self] at e2
      exact Option.some.inj e1 ▸ Option.some.inj e2 ▸ hm
  · rw [List.nodup_append]
    refine ⟨S.nd, List.pairwise_singleton _ _, fun c hc b hb e => ?_⟩
    rw [List.mem_singleton] at hb
    exact nal (hb ▸ e ▸ hc)
  · rcases List.mem_append.mp hc with hc | hc
    · exact S.there c hc
    · exact List.mem_singleton.mp hc ▸ at_
/-- C(..), kept as an own object -/
theorem dt_makeO {C : Addr} {n : Nat} {R : Mc → List D → D → Mc → Prop} {E : XK} {ds : List D} {fs : List (Str × D)} (h : DA K t ss mem ds m1) (hR : R (.obj C []) ds .non (.obj C fs)) (hn : ds.length + 1 = n := by rfl) : DT K (tMake C (spO K n R) [] E t) ss mem (.own m1.length) (m1 ++ [.obj C fs]) := fun B H al σ Q S k =>
  h B H al σ _ S fun B1 H1 al1 vs P1 S1 r1 x dx nx ndx nex => by
    have nb : B1 x = none := S1.sub.free nx
    have sH : Same H1 (upd (upd H1 dx (.own x)) x (.ins C dx [])) := fun b u e => by rw [upd_ne (ne_of_none e nx), upd_ne (ne_of_none e ndx)]; exact e
    refine ⟨B1, [x], .own 0 :: ds.map Vl.dat, [.obj C []], .non, [.obj C fs], ⟨_, ds, _, rfl, rfl, rfl, hR⟩, by rw [List.length_cons, List.length_map]; exact hn, rfl, ?_, fun B' H' v P S' rv => ⟨by cases rv; rfl, ?_⟩⟩
    · rw [List.append_nil]
      refine ⟨S1.sub.trans sH, by rw [List.length_map, List.length_map, List.length_cons, List.length_cons, List.length_map, r1.len], fun i q h => ?_, rfl, fun n' a' m'' h1 h2 => ?_, List.pairwise_singleton _ _, fun a' h => ?_⟩
      · match i, h with
        | 0, h =>
          cases h
          exact ⟨.ref x, rfl, x, rfl, rfl⟩
        | i + 1, h =>
          obtain ⟨v, h1, h2⟩ := (pack_slots (S1.sub.trans sH) r1).slot i q h
          refine ⟨v, h1, ?_⟩
          cases q with
          | dat d => exact h2
          | own n' =>
            obtain ⟨y, h3, _⟩ := h2
            cases h3
          | tl ds => exact h2
          | lk ds => exact h2
      · match n', h1, h2 with
        | 0, h1, h2 =>
          cases h1
          cases h2
          exact ⟨nb, dx, [], upd_same, .nil⟩
      · rw [List.mem_singleton.mp h, upd_same]
        exact fun z => nomatch z
    · obtain ⟨b0, dx', fv, h3, h4⟩ := S'.mem 0 x _ rfl rfl
      have hnx : ∀ b, H1 b ≠ none → b ≠ x := fun b h e => h (e ▸ nx)
      have hnd : ∀ b, H1 b ≠ none → b ≠ dx := fun b h e => h (e ▸ ndx)
      have P0 : Stp B1 H1 [] B' H' [] := by
        refine ⟨P.same, fun b u e _ => P.frame b u (sH b u e) (fun z => ne_of_none e nx (List.mem_singleton.mp z)), fun b h => ?_, fun b h => P.stay b ?_, [], rfl, fun _ h => by cases h⟩
        · rcases P.fresh b h with z | z | z | ⟨ys, z⟩
          · exact .inl z
          · refine .inr (.inl ?_)
            by_cases e : b = x
            · exact e ▸ nx
            · rw [upd_ne e] at z
              by_cases e2 : b = dx
              · exact e2 ▸ ndx
              · rw [upd_ne e2] at z
                exact z
          · rw [List.mem_singleton] at z
            exact absurd (z ▸ b0) h
          · by_cases e : b = x
            · rw [e, upd_same] at z
              cases z
            · rw [upd_ne e] at z
              by_cases e2 : b = dx
              · rw [e2, upd_same] at z
                cases z
              · rw [upd_ne e2] at z
                exact .inr (.inr (.inr ⟨ys, z⟩))
        · rw [upd_ne (hnx b h), upd_ne (hnd b h)]
          exact h
      obtain ⟨P2, S2⟩ := S1.after P0 S'.sub
      obtain ⟨P3, S3, r3⟩ := Sit.gain (m := .obj C fs) P2 S2 nx (fun z => S1.there x z nx) (S'.there x List.mem_cons_self) (S'.mem 0 x _ rfl rfl)
      exact k _ _ _ _ (P1.trans P3) S3 r3
/-- a method of one own object that gives a new one -/
def spMN (K : PySem.W.Frag) (n : Nat) (R : List Vl → Mc → Mc → Mc → Prop) : Sp := fun vs H Q _ => ∃ B a args m m' mn, R args m m' mn ∧ args.length = n ∧ Sit K B H [a] (vs.map some) (args.map some) [m] ∧
  ∀ B' H' b, Stp B H [a] B' H' [a, b] → Sit K B' H' [a, b] (vs.map some) (args.map some) [m', mn] → Q (.ref b) H'
theorem dt_methN {C : Addr} {gs : List (Str × D)} {mn : Str} {n p : Nat} {R : List Vl → Mc → Mc → Mc → Prop} {E : XK} {ds : List D} {m' mN : Mc} (ho : DT K ta ss mem (.own p) m1) (hm1 : m1[p]? = some (.obj C gs)) (hl : gs.lookup mn = none) (h : DA K t ss m1 ds m2) (hm2 : m2[p]? = some (.obj C gs))
    (hR : R (.own 0 :: ds.map Vl.dat) (.obj C gs) m' mN) (hn : ds.length + 1 = n := by rfl) : DT K (tMeth C mn (spMN K n R) [] E ta t) ss mem (.own m2.length) (m2.set p m' ++ [mN]) := fun B H al σ Q S q =>
  own_meth ho hm1 hl h hm2 S fun B2 H2 al2 a vs P2 S2 a2 Sg => by
    refine ⟨B2, a, .own 0 :: ds.map Vl.dat, .obj C gs, m', mN, hR, by rw [List.length_cons, List.length_map]; exact hn, by rw [List.append_nil]; exact Sg, fun B' H' b P S' => ?_⟩
    have P1 : Stp B2 H2 [a] B' H' [a] := P.drop 1 (Nat.le_refl _)
    obtain ⟨P3, S3⟩ := S2.after1 a2 P1 S'.sub (S'.mem 0 a m' rfl rfl)
    have fresh : H2 b = none := by
      obtain ⟨ex, e, hx⟩ := P.ext
      exact hx b (by have : ex = [b] := (List.cons.inj e).2.symm; rw [this]; exact List.mem_cons_self)
    obtain ⟨P4, S4, r4⟩ := Sit.gain (m := mN) P3 S3 fresh (fun z => S2.there b z fresh) (S'.there b (by simp)) (S'.mem 1 b mN rfl rfl)
    rw [List.length_set] at r4
    exact q _ _ _ _ (P2.trans P4) S4 r4
end
section
variable {P : Program} {w : World} {K : PySem.W.Frag} {mg : Str → Option Value} {base : Heap}
theorem fnMN {x qual : Str} {st : Stmt} {f : Addr} {fd : FuncData} {N ps : List Str} {k n : Nat} {R : List Vl → Mc → Mc → Mc → Prop} (F : Fun K x qual st f fd) (S : FnScope N ps (defScope st)) (hp : ps.length = n)
    (hbody : ∀ (cdv : Value) (A : Around) (outer : List Env) (s : Shared) (H : Hp) (E : XK), Room k (A.deeper (envOfC qual (defScope st) s.heap.objs.size f cdv)) →
      ∃ t, PSs (cxOf CX0 P w K mg base N qual (defScope st) f cdv A outer s H E).nox (defBody st) t ∧
        ∀ args m m' mn, R args m m' mn → args.length = n → ∃ (j : Nat) (mm : List Mc), DS K t (args.map some ++ List.replicate (N.length - n) none) [m] (.rt (.own (j + 1)) (m' :: mm)) ∧ mm[j]? = some mn) :
    FnOk P w K mg base CX0 (k + 1) f fd ps (spMN K n R) := by
  refine F.ok S (fun vs H Q E h => ?_) (fun cdv A outer s H vs Q E hr h => ?_)
  · obtain ⟨B, a, args, m, m', mn, _, hn, S0, _⟩ := h
    have := S0.len
    rw [List.length_map, List.length_map] at this
    omega
  · obtain ⟨B, a, args, m, m', mn, hR, hn, S0, k0⟩ := h
    obtain ⟨t, ht, hd⟩ := hbody cdv A outer s H E hr
    refine ⟨t, ht, ?_⟩
    obtain ⟨j, mm, h, hj⟩ := hd args m m' mn hR hn
    refine h B H [a] (L2.start N vs) _ (start_sit S0 hn) fun B' H' al' P' σ' ss' v S' rv => ?_
    obtain ⟨b, b1, rfl⟩ := rv
    obtain ⟨ex, e, hx⟩ := P'.ext
    subst e
    have b1 : ex[j]? = some b := b1
    have ina := List.mem_of_getElem? b1
    have nab : a ≠ b := fun z => absurd S0.nd (by
      have := S0.there a List.mem_cons_self
      exact absurd (hx b ina) (z ▸ this))
    have P2 : Stp B H [a] B' H' [a, b] := ⟨P'.same, P'.frame, P'.fresh, P'.stay, [b], rfl, fun c hc => List.mem_singleton.mp hc ▸ hx b ina⟩
    refine k0 B' H' b P2 ⟨S'.sub, S0.len, fun i r e => ?_, rfl, fun l c z e1 e2 => ?_, ?_, fun c hc => ?_⟩
    · obtain ⟨v, h1, h2⟩ := S0.slot i r e
      exact ⟨v, h1, h2.step P2⟩
    · match l, e1, e2 with
      | 0, e1, e2 => exact Option.some.inj e1 ▸ Option.some.inj e2 ▸ S'.mem 0 a m' rfl rfl
      | 1, e1, e2 => exact Option.some.inj e1 ▸ Option.some.inj e2 ▸ S'.mem (j + 1) b mn b1 hj
    · exact List.Pairwise.cons (fun y hy => List.mem_singleton.mp hy ▸ nab) (List.pairwise_singleton _ _)
    · rcases List.mem_cons.mp hc with e | hc
      · exact e ▸ S'.there a List.mem_cons_self
      · exact List.mem_singleton.mp hc ▸ S'.there b (List.mem_cons_of_mem _ ina)
end
end DL
end
section
set_option Elab.async false
set_option linter.all false
set_option maxRecDepth 100000
/-! lists that lie as they were made; isinstance with a tuple of classes -/
namespace DL
open PySem PySem.Spec PyProof.Rows L2
section
variable {K : PySem.W.Frag} {ss : Sl} {mem m1 m2 m3 : List Mc} {ta tb te : TE} {d : D} {ds es : List D}
theorem dt_frzR {n : Nat} (h : DT K te ss mem (.own n) m1) (hm : m1[n]? = some (.lst ds)) : DT K te ss mem (.dat (.rls ds)) (m1.set n .gone) := fun B H al σ Q S k =>
  h B H al σ _ S fun B1 H1 al1 v P1 S1 r1 => by
    obtain ⟨a, a1, rfl⟩ := r1
    obtain ⟨b0, xs, a2, a3⟩ := S1.mem n a _ a1 hm
    obtain ⟨P, S'⟩ := S1.freeze a1 b0 a2
    exact k _ _ _ _ (P1.trans P) S' (.rls upd_same (RepAll.mono P.same ds a3))
theorem dt_rTl (h : DT K te ss mem (.dat (.rls ds)) m1) : DT K te ss mem (.tl ds) m1 := fun B H al σ Q S k =>
  h B H al σ _ S fun B1 H1 al1 v P1 S1 r1 => by
    cases r1 with
    | rls s r => exact k _ _ _ _ P1 S1 ⟨_, _, rfl, s, r⟩
theorem dt_catRR (ha : DT K ta ss mem (.dat (.rls ds)) m1) (hb : DT K tb ss m1 (.dat (.rls es)) m2) (hl : ds.length + es.length ≤ 16777216) : DT K (tOp rCat ta tb) ss mem (.dat (.rls (ds ++ es))) m2 := dt_tlR (dt_catR ha (dt_rTl hb) hl)
theorem dt_slR {tl th : TO} {lo hi : Option Int} (h : DT K te ss mem (.dat (.lst ds)) m1) (hl : DO K tl ss m1 lo m2) (hh : DO K th ss m2 hi m3) : DT K (tSl (rSlL K) te tl th) ss mem (.dat (.rls (cutD ds lo hi))) m3 := fun B H al σ Q S k =>
  h B H al σ _ S fun B1 H1 al1 v P1 S1 r1 => hl B1 H1 al1 σ _ S1 fun B2 H2 al2 P2 S2 => hh B2 H2 al2 σ _ S2 fun B3 H3 al3 P3 S3 => by
    cases Rep.mono (P2.trans P3).same _ r1 with
    | @lst a xs _ s r =>
      refine ⟨a, xs, rfl, S3.seqL s, fun p np => ?_⟩
      obtain ⟨P, S'⟩ := S3.lay (o := .lst (cutV xs lo hi)) np
      exact k _ _ _ _ (((P1.trans P2).trans P3).trans P) S' (.rls upd_same (RepAll.mono P.same _ (cut_rep r)))
theorem dt_isiLT {T : String} (h : DT K te ss mem (.dat d) m1) (hd : d.tyn = some T) (hT : T = "list" ∨ T = "tuple") :
    DT K (tCB (rIsiT K) (tCons te (tCons (tTup (tCons (tC (.ty "list")) (tCons (tC (.ty "tuple")) tNil))) tNil))) ss mem (.dat (.bl true)) m1 := fun B H al σ Q S k =>
  h B H al σ _ S fun B1 H1 al1 v P1 S1 r1 => by
    refine ⟨by rw [sizeLine_eq]; exact Nat.le_of_ble_eq_true rfl, fun p np => ?_⟩
    obtain ⟨P2, S2⟩ := S1.lay (o := .tup [.ty "list", .ty "tuple"]) np
    refine ⟨v, p, [.ty "list", .ty "tuple"], .type T, [.type "list", .type "tuple"], true, rfl, upd_same, .cons (.ty _) (.cons (.ty _) .nil), rep_ty S2.sub (Rep.mono P2.same _ r1) hd, ?_, k _ _ _ _ (P1.trans P2) S2 (.bl true)⟩
    rcases hT with rfl | rfl
    · exact kitAny_cons (kit_ty (b := "list") (r := true) (by decide +kernel)) (fun z => nomatch z) fun _ => rfl
    · exact kitAny_cons (kit_ty (b := "list") (r := false) (by decide +kernel)) (fun _ => kitAny_cons (cs := []) (kit_ty (b := "tuple") (r := true) (by decide +kernel)) (fun z => nomatch z) fun _ => rfl) fun z => nomatch z
end
section
variable {X : Cx} (K : PySem.W.Frag)
theorem callIsiT (h : X.K = K := by rfl) : CallR X (.builtin "isinstance") (rIsiT K) := h ▸ call_isiT
end
end DL
end
section
set_option Elab.async false
set_option linter.all false
set_option maxRecDepth 100000
/-! zip of a list and a tuple of any lengths -/
namespace DL
open PySem PySem.Spec PyProof.Rows L2
/-- the list at a, the tuple at b, hand in hand, n turns -/
def PrLU (K : PySem.W.Frag) (a b : Addr) (n : Nat) : It where
  go i H := i < n ∧ ∃ xs ys, SqL K H a xs ∧ SqT K H b ys ∧ min xs.length ys.length = n
  yld i H v H' := ∃ T l r, v = .ref T ∧ H T = none ∧ H' = upd H T (.tup [l, r]) ∧ (∀ zs, SqL K H a zs → zs[i]? = some l) ∧ ∀ zs, SqT K H b zs → zs[i]? = some r
  stop i H := n ≤ i ∧ ∃ xs ys, SqL K H a xs ∧ SqT K H b ys ∧ min xs.length ys.length = n
theorem turnPrLU {P : Program} {w : World} {K : PySem.W.Frag} {elts : List Expr} {kk : Nat} {tpos : Pos} {a b z TI TO i1 i2 : Addr} {n : Nat} (Z : ZipSep2 z TI TO i1 i2 [i1, a] [i2, b]) (ai : a ≠ i1) (bi : b ≠ i2) :
    Turn P w K (.Tuple elts kk tpos) (PrLU K a b n) [z, TI, TO, i1, i2] z fun i h => i ≤ n ∧ IsZip h z TI TO .none ∧ IsTupOf2 h TI (.ref i1) (.ref i2) ∧ (∃ p q, IsTupOf2 h TO p q) ∧ h.IsListIter i1 a i ∧ h.IsTupleIter i2 b i where
  mem := List.mem_cons_self
  obj i h st c hc := by
    obtain ⟨-, s1, s2, ⟨p, q, s3⟩, ⟨_, g1, -, c1⟩, _, g2, -, c2⟩ := st
    simp only [List.mem_cons, List.not_mem_nil, or_false] at hc
    rcases hc with rfl | rfl | rfl | rfl | rfl
    · exact ⟨_, s1, fun _ y => nomatch y⟩
    · exact ⟨_, s2, fun _ y => nomatch y⟩
    · exact ⟨_, s3, fun _ y => nomatch y⟩
    · exact ⟨_, g1, fun _ y => by rw [c1] at y; cases y⟩
    · exact ⟨_, g2, fun _ y => by rw [c2] at y; cases y⟩
  keep i h h' st k := ⟨st.1, k z (by simp) _ st.2.1, k TI (by simp) _ st.2.2.1, let ⟨p, q, y⟩ := st.2.2.2.1; ⟨p, q, k TO (by simp) _ y⟩, st.2.2.2.2.1.at (k i1 (by simp)), st.2.2.2.2.2.at (k i2 (by simp))⟩
  self A i s Q E st k := wpAny_pyIter_zip st.2.1 k
  item := by
    rintro X rfl rfl rfl calm i pins s σ H E I free ⟨-, s1, s2, s3, g1, g2⟩ ⟨lt, xs, ys, sa, sb, nb⟩
    obtain ⟨us, relu, pl, -⟩ := I.list sa
    obtain ⟨ws, relw, tup, -⟩ := I.tuple sb
    have hh : X.A.in1.handled = none := I.ok.hd calm
    have W := WalksT.zipD2 Z (Draws.list (prog := X.prog) (w := X.w) (A := X.A.in1) hh i1 a ai us.toArray) (Draws.tuple (prog := X.prog) (w := X.w) (A := X.A.in1) hh i2 b bi ws.toArray)
    have lu := relu.length
    have lw := relw.length
    obtain ⟨u, eu, ru⟩ := relu.get (List.getElem?_eq_getElem (show i < xs.length by omega))
    obtain ⟨v, ev, rv⟩ := relw.get (List.getElem?_eq_getElem (show i < ys.length by omega))
    refine W.item i s _ _ (by rw [List.size_toArray, List.size_toArray]; omega) ⟨s1, s2, s3, ⟨g1, pl.isList⟩, g2, tup⟩ fun T vals h1 tk ⟨u', v', hu, hv, he⟩ new hT mid k1 => ⟨_, rfl, W.go elts kk tpos i T _ _ _ mid fun h2 ⟨t1, t2, t3, t4, t5⟩ k2 => ?_⟩
    have hu : us[i]? = some u' := by simpa using hu
    have hv : ws[i]? = some v' := by simpa using hv
    cases eu.symm.trans hu
    cases ev.symm.trans hv
    have nT : T ∉ [z, TO, i1, i2] := W.apart i T _ mid
    obtain ⟨oT, gT, cT, nn, dT⟩ := hT
    have pair : ObjOk X.prog X.w (upd H T (.tup [xs[i], ys[i]])) h2 T (.tup [xs[i], ys[i]]) :=
      ⟨by rw [sizeLine_eq]; show 2 ≤ 16777216; omega, [u, v], .cons ru (.cons rv .nil), oT, k2 T oT nT gT, cT, nn, by rw [dT, he]⟩
    have onlyL : ∀ zs, SqL X.K H a zs → zs[i]? = some xs[i] := fun zs hy => by
      cases I.list_inj sa hy
      exact List.getElem?_eq_getElem _
    have onlyT : ∀ zs, SqT X.K H b zs → zs[i]? = some ys[i] := fun zs hy => by
      cases I.tuple_inj sb hy
      exact List.getElem?_eq_getElem _
    have inch : ∀ {c : Addr}, c ∉ [z, TI, TO, i1, i2] → c ∉ [z, TO, i1, i2] := fun hc y => hc (by simp only [List.mem_cons, List.not_mem_nil, or_false] at y ⊢; rcases y with y | y | y | y <;> simp [y])
    refine ⟨.ref T, _, I.turnedNew (t' := tk) (fun c o nc g => k2 c o (inch nc) (k1 c o (inch nc) g)) free new pair, rfl, ⟨T, _, _, rfl, I.hok.fresh new, rfl, onlyL, onlyT⟩, ⟨lt, t1, t2, t3, t4.1, t5.1⟩, fun c hc => ?_⟩
    have cT : c ≠ T := fun y => by
      have old : ∃ o, s.heap.get? c = some o := by
        obtain ⟨o1, q1, -⟩ := g1
        obtain ⟨o2, q2, -⟩ := g2
        obtain ⟨_, _, q3⟩ := s3
        simp only [List.mem_cons, List.not_mem_nil, or_false] at hc
        rcases hc with e | e | e | e | e
        · exact ⟨_, e ▸ s1⟩
        · exact ⟨_, e ▸ s2⟩
        · exact ⟨_, e ▸ q3⟩
        · exact ⟨_, e ▸ q1⟩
        · exact ⟨_, e ▸ q2⟩
      obtain ⟨o, ho⟩ := old
      exact Nat.lt_irrefl _ (Nat.lt_of_lt_of_le (Heap.lt_size ho) (y ▸ new))
    exact (upd_ne cT).trans (free c hc).1
  done := by
    rintro X rfl rfl rfl calm i pins s σ H E I free ⟨le, s1, s2, s3, g1, g2⟩ ⟨ge, xs, ys, sa, sb, nb⟩
    obtain ⟨us, relu, pl, -⟩ := I.list sa
    obtain ⟨ws, relw, tup, -⟩ := I.tuple sb
    have hh : X.A.in1.handled = none := I.ok.hd calm
    have W := WalksT.zipD2 Z (Draws.list (prog := X.prog) (w := X.w) (A := X.A.in1) hh i1 a ai us.toArray) (Draws.tuple (prog := X.prog) (w := X.w) (A := X.A.in1) hh i2 b bi ws.toArray)
    have lu := relu.length
    have lw := relw.length
    have len : i = min us.toArray.size ws.toArray.size := by rw [List.size_toArray, List.size_toArray]; omega
    subst len
    have inch : ∀ {c : Addr}, c ∉ [z, TI, TO, i1, i2] → c ∉ [z, TO, i1, i2] := fun hc y => hc (by simp only [List.mem_cons, List.not_mem_nil, or_false] at y ⊢; rcases y with y | y | y | y <;> simp [y])
    exact W.done s _ _ ⟨s1, s2, s3, ⟨g1, pl.isList⟩, g2, tup⟩ fun h1 tk k1 => ⟨rfl, I.turnedL (fun c o nc g => k1 c o (inch nc) g) free⟩
def iZipLU (K : PySem.W.Frag) (ta : TA) : TI := fun σ H R => ta σ H fun vs H1 => ∃ a b xs ys, vs = [.ref a, .ref b] ∧ SqL K H1 a xs ∧ SqT K H1 b ys ∧ R (PrLU K a b (min xs.length ys.length)) H1
theorem piZipLU {X : Cx} {e e2 : Expr} {ta : TA} {p pos tpos : Pos} {elts : List Expr} {kk : Nat} (K : PySem.W.Frag) (hg : Gl X "zip") (hm : X.mg "zip" = none) (ha : PA X [e, e2] ta) (hK : X.K = K := by rfl)
    (plain1 : starEach [e, e2] X.env = (false, eval e X.env) :: starEach [e2] X.env := by rfl)
    (plain2 : (backTo pos (starEach [e2] X.env)).any (·.1) = false := by rfl) : PI X (.Tuple elts kk tpos) (.Call (.Name "zip" p) [e, e2] [] pos) (iZipLU K ta) := hK ▸ ⟨fun pins s σ H R I wish => by
  refine Call_ (ld_blt I hg hm PyProof.Rows.boot_zip (PyProof.Rows.callWith_type1 (thn (ha.run pos pins s σ H _ I wish) fun us s1 came => ?_) plain1 plain2))
  obtain ⟨vs, H1, I1, rel, a, b, xs, ys, rfl, sa, sb, k⟩ := came
  cases rel with | cons p1 q => ?_
  cases q with | cons p2 q => ?_
  cases q
  cases p1
  cases p2
  obtain ⟨its, -, pl, -⟩ := I1.list sa
  obtain ⟨its2, -, tup, -⟩ := I1.tuple sb
  have la : a < s1.heap.objs.size := pl.isList.elim fun o y => Heap.lt_size y.1
  have lb : b < s1.heap.objs.size := let ⟨_, g, _⟩ := tup; Heap.lt_size g
  refine zip_begins2 (begins_list a its.toArray) (begins_tuple b its2.toArray) pl.isList tup fun h' hz hTI hTO q1 q2 hsz old => wpAny_pyIter_zip hz ?_
  refine ⟨_, [s1.heap.objs.size + 4, s1.heap.objs.size + 2, s1.heap.objs.size + 3, s1.heap.objs.size, s1.heap.objs.size + 1], _, _, H1, rfl, I1.kept (t' := s1.toks) old,
    turnPrLU (zip_sep2 (fp1 := [a]) (fp2 := [b]) (fun c hc => by rw [List.mem_singleton.mp hc]; exact la) (fun c hc => by rw [List.mem_singleton.mp hc]; exact lb)) (Nat.ne_of_lt la) (Nat.ne_of_lt (Nat.lt_succ_of_lt lb)),
    ⟨Nat.zero_le _, hz, hTI, ⟨_, _, hTO⟩, ⟨_, q1, rfl, rfl⟩, ⟨_, q2, rfl, rfl⟩⟩, fun c hc => ?_, k⟩
  have ge : s1.heap.objs.size ≤ c := by
    simp only [List.mem_cons, List.not_mem_nil, or_false] at hc
    rcases hc with e | e | e | e | e <;> rw [e] <;> simp
  exact I1.fpOk ge (I1.hok.fresh ge)⟩
section
variable {K : PySem.W.Frag} {ss : Sl} {mem m1 : List Mc}
theorem di_zipLU {ds es : List D} {t : TA} (h : DA K t ss mem [.lst ds, .tup es] m1) : DI K (iZipLU K t) ss mem (min ds.length es.length) (fun i => .tup [nthD ds i, nthD es i]) m1 := fun B H al σ R S k =>
  h B H al σ _ S fun B1 H1 al1 vs P1 S1 r1 => by
    obtain ⟨v, w, rfl, q1, q2⟩ := two_data r1
    cases q1 with
    | @lst a xs _ sa ra =>
      cases q2 with
      | @tup b ys _ sb rb =>
        have sb : SqT K B1 b ys := SqT.of sb
        have lx : min xs.length ys.length = min ds.length es.length := by rw [ra.len, rb.len]
        refine ⟨a, b, xs, ys, rfl, S1.seqL sa, S1.seqT sb, k _ _ _ _ P1 S1 fun B2 H2 al2 σ2 ss2 mem2 grown S2 => ?_⟩
        have ta := S2.seqL (grown.seq sa)
        have tb := S2.seqT (sameT grown sb)
        refine ⟨fun i hi => ⟨⟨by rw [lx]; exact hi, xs, ys, ta, tb, rfl⟩, fun x H' y => ?_⟩, fun i hi => ⟨by rw [lx]; exact hi, xs, ys, ta, tb, rfl⟩⟩
        obtain ⟨p, p1, p2⟩ := ra.get (nthD_get (show i < ds.length by omega))
        obtain ⟨q, q1, q2⟩ := rb.get (nthD_get (show i < es.length by omega))
        obtain ⟨T, x', y', rfl, nT, rfl, f, g⟩ := y
        cases p1.symm.trans (f xs ta)
        cases q1.symm.trans (g ys tb)
        exact S2.layPair nT (Rep.mono grown _ p2) (Rep.mono grown _ q2)
/-- .. of two tuples -/
theorem di_zipTT {ds es : List D} {t : TA} (h : DA K t ss mem [.tup ds, .tup es] m1) : DI K (RZ.iZipA K t) ss mem (min ds.length es.length) (fun i => .tup [nthD ds i, nthD es i]) m1 := fun B H al σ R S k =>
  h B H al σ _ S fun B1 H1 al1 vs P1 S1 r1 => by
    obtain ⟨v, w, rfl, q1, q2⟩ := two_data r1
    cases q1 with
    | @tup a xs _ sa ra =>
      cases q2 with
      | @tup b ys _ sb rb =>
        have sa : SqT K B1 a xs := SqT.of sa
        have sb : SqT K B1 b ys := SqT.of sb
        refine ⟨a, b, xs, ys, rfl, .inr ⟨S1.seqT sa, S1.seqT sb, k _ _ _ _ P1 S1 fun B2 H2 al2 σ2 ss2 mem2 grown S2 => ?_⟩⟩
        have ta := S2.seqT (sameT grown sa)
        have tb := S2.seqT (sameT grown sb)
        refine ⟨fun i hi => ?_, fun i hi => ⟨xs, ys, ta, tb, by rw [ra.len, rb.len]; omega⟩⟩
        obtain ⟨p, p1, p2⟩ := ra.get (nthD_get (show i < ds.length by omega))
        obtain ⟨q, q1, q2⟩ := rb.get (nthD_get (show i < es.length by omega))
        refine ⟨⟨xs, ys, p, q, ta, tb, p1, q1⟩, fun x H' y => ?_⟩
        obtain ⟨T, x', y', rfl, nT, rfl, f, g⟩ := y
        cases p1.symm.trans (f xs ta)
        cases q1.symm.trans (g ys tb)
        exact S2.layPair nT (Rep.mono grown _ p2) (Rep.mono grown _ q2)
end
end DL
end
section
set_option Elab.async false
set_option linter.all false
set_option maxRecDepth 100000
set_option maxHeartbeats 1000000
/-! zip of three lists -/
namespace DL
open PySem PySem.Spec PyProof.Rows L2
/-- the lists at a, b and c, hand in hand, n turns -/
def Tr3 (K : PySem.W.Frag) (a b c : Addr) (n : Nat) : It where
  go i H := i < n ∧ ∃ xs ys zs, SqL K H a xs ∧ SqL K H b ys ∧ SqL K H c zs ∧ min (min xs.length ys.length) zs.length = n
  yld i H v H' := ∃ T l m r, v = .ref T ∧ H T = none ∧ H' = upd H T (.tup [l, m, r]) ∧ (∀ qs, SqL K H a qs → qs[i]? = some l) ∧ (∀ qs, SqL K H b qs → qs[i]? = some m) ∧ ∀ qs, SqL K H c qs → qs[i]? = some r
  stop i H := n ≤ i ∧ ∃ xs ys zs, SqL K H a xs ∧ SqL K H b ys ∧ SqL K H c zs ∧ min (min xs.length ys.length) zs.length = n
theorem turnTr3 {P : Program} {w : World} {K : PySem.W.Frag} {elts : List Expr} {kk : Nat} {tpos : Pos} {a b c z TI TO i1 i2 i3 : Addr} {n : Nat} (Z : ZipSep3 z TI TO i1 i2 i3 [i1, a] [i2, b] [i3, c]) (ai : a ≠ i1) (bi : b ≠ i2) (ci : c ≠ i3) :
    Turn P w K (.Tuple elts kk tpos) (Tr3 K a b c n) [z, TI, TO, i1, i2, i3] z fun i h => i ≤ n ∧ IsZip h z TI TO .none ∧ IsTupOf3 h TI (.ref i1) (.ref i2) (.ref i3) ∧ (∃ p q r, IsTupOf3 h TO p q r) ∧ h.IsListIter i1 a i ∧ h.IsListIter i2 b i ∧ h.IsListIter i3 c i where
  mem := List.mem_cons_self
  obj i h st e he := by
    obtain ⟨-, s1, s2, ⟨p, q, r, s3⟩, ⟨_, g1, -, c1⟩, ⟨_, g2, -, c2⟩, _, g3, -, c3⟩ := st
    simp only [List.mem_cons, List.not_mem_nil, or_false] at he
    rcases he with rfl | rfl | rfl | rfl | rfl | rfl
    · exact ⟨_, s1, fun _ y => nomatch y⟩
    · exact ⟨_, s2, fun _ y => nomatch y⟩
    · exact ⟨_, s3, fun _ y => nomatch y⟩
    · exact ⟨_, g1, fun _ y => by rw [c1] at y; cases y⟩
    · exact ⟨_, g2, fun _ y => by rw [c2] at y; cases y⟩
    · exact ⟨_, g3, fun _ y => by rw [c3] at y; cases y⟩
  keep i h h' st k := ⟨st.1, k z (by simp) _ st.2.1, k TI (by simp) _ st.2.2.1, let ⟨p, q, r, y⟩ := st.2.2.2.1; ⟨p, q, r, k TO (by simp) _ y⟩, st.2.2.2.2.1.at (k i1 (by simp)), st.2.2.2.2.2.1.at (k i2 (by simp)), st.2.2.2.2.2.2.at (k i3 (by simp))⟩
  self A i s Q E st k := wpAny_pyIter_zip st.2.1 k
  item := by
    rintro X rfl rfl rfl calm i pins s σ H E I free ⟨-, s1, s2, s3, g1, g2, g3⟩ ⟨lt, xs, ys, zs, sa, sb, sc, nb⟩
    obtain ⟨us, relu, pu, -⟩ := I.list sa
    obtain ⟨vs, relv, pv, -⟩ := I.list sb
    obtain ⟨ws, relw, pw, -⟩ := I.list sc
    have hh : X.A.in1.handled = none := I.ok.hd calm
    have W := WalksT.zipD3 Z (Draws.list (prog := X.prog) (w := X.w) (A := X.A.in1) hh i1 a ai us.toArray) (Draws.list (prog := X.prog) (w := X.w) (A := X.A.in1) hh i2 b bi vs.toArray) (Draws.list (prog := X.prog) (w := X.w) (A := X.A.in1) hh i3 c ci ws.toArray)
    have lu := relu.length
    have lv := relv.length
    have lw := relw.length
    obtain ⟨u, eu, ru⟩ := relu.get (List.getElem?_eq_getElem (show i < xs.length by omega))
    obtain ⟨v, ev, rv⟩ := relv.get (List.getElem?_eq_getElem (show i < ys.length by omega))
    obtain ⟨x, ex, rx⟩ := relw.get (List.getElem?_eq_getElem (show i < zs.length by omega))
    refine W.item i s _ _ (by rw [List.size_toArray, List.size_toArray, List.size_toArray]; omega) ⟨s1, s2, s3, ⟨g1, pu.isList⟩, ⟨g2, pv.isList⟩, g3, pw.isList⟩ fun T vals h1 tk ⟨u', v', x', hu, hv, hx, he⟩ new hT mid k1 => ⟨_, rfl, W.go elts kk tpos i T _ _ _ mid fun h2 ⟨t1, t2, t3, t4, t5, t6⟩ k2 => ?_⟩
    have hu : us[i]? = some u' := by simpa using hu
    have hv : vs[i]? = some v' := by simpa using hv
    have hx : ws[i]? = some x' := by simpa using hx
    cases eu.symm.trans hu
    cases ev.symm.trans hv
    cases ex.symm.trans hx
    have nT : T ∉ [z, TO, i1, i2, i3] := W.apart i T _ mid
    obtain ⟨oT, gT, cT, nn, dT⟩ := hT
    have trio : ObjOk X.prog X.w (upd H T (.tup [xs[i], ys[i], zs[i]])) h2 T (.tup [xs[i], ys[i], zs[i]]) :=
      ⟨by rw [sizeLine_eq]; show 3 ≤ 16777216; omega, [u, v, x], .cons ru (.cons rv (.cons rx .nil)), oT, k2 T oT nT gT, cT, nn, by rw [dT, he]⟩
    have only : ∀ {d : Addr} {ds : List V} (sd : SqL X.K H d ds) (hd : i < ds.length), ∀ qs, SqL X.K H d qs → qs[i]? = some ds[i] := fun sd hd qs hy => by
      cases I.list_inj sd hy
      exact List.getElem?_eq_getElem _
    have inch : ∀ {e : Addr}, e ∉ [z, TI, TO, i1, i2, i3] → e ∉ [z, TO, i1, i2, i3] := fun hc y => hc (by simp only [List.mem_cons, List.not_mem_nil, or_false] at y ⊢; rcases y with y | y | y | y | y <;> simp [y])
    refine ⟨.ref T, _, I.turnedNew (t' := tk) (fun e o nc g => k2 e o (inch nc) (k1 e o (inch nc) g)) free new trio, rfl, ⟨T, _, _, _, rfl, I.hok.fresh new, rfl, only sa (by omega), only sb (by omega), only sc (by omega)⟩, ⟨lt, t1, t2, t3, t4.1, t5.1, t6.1⟩, fun e he => ?_⟩
    have eT : e ≠ T := fun y => by
      have old : ∃ o, s.heap.get? e = some o := by
        obtain ⟨o1, q1, -⟩ := g1
        obtain ⟨o2, q2, -⟩ := g2
        obtain ⟨o3, q4, -⟩ := g3
        obtain ⟨_, _, _, q3⟩ := s3
        simp only [List.mem_cons, List.not_mem_nil, or_false] at he
        rcases he with e | e | e | e | e | e
        · exact ⟨_, e ▸ s1⟩
        · exact ⟨_, e ▸ s2⟩
        · exact ⟨_, e ▸ q3⟩
        · exact ⟨_, e ▸ q1⟩
        · exact ⟨_, e ▸ q2⟩
        · exact ⟨_, e ▸ q4⟩
      obtain ⟨o, ho⟩ := old
      exact Nat.lt_irrefl _ (Nat.lt_of_lt_of_le (Heap.lt_size ho) (y ▸ new))
    exact (upd_ne eT).trans (free e he).1
  done := by
    rintro X rfl rfl rfl calm i pins s σ H E I free ⟨le, s1, s2, s3, g1, g2, g3⟩ ⟨ge, xs, ys, zs, sa, sb, sc, nb⟩
    obtain ⟨us, relu, pu, -⟩ := I.list sa
    obtain ⟨vs, relv, pv, -⟩ := I.list sb
    obtain ⟨ws, relw, pw, -⟩ := I.list sc
    have hh : X.A.in1.handled = none := I.ok.hd calm
    have W := WalksT.zipD3 Z (Draws.list (prog := X.prog) (w := X.w) (A := X.A.in1) hh i1 a ai us.toArray) (Draws.list (prog := X.prog) (w := X.w) (A := X.A.in1) hh i2 b bi vs.toArray) (Draws.list (prog := X.prog) (w := X.w) (A := X.A.in1) hh i3 c ci ws.toArray)
    have lu := relu.length
    have lv := relv.length
    have lw := relw.length
    have len : i = min (min us.toArray.size vs.toArray.size) ws.toArray.size := by rw [List.size_toArray, List.size_toArray, List.size_toArray]; omega
    subst len
    have inch : ∀ {e : Addr}, e ∉ [z, TI, TO, i1, i2, i3] → e ∉ [z, TO, i1, i2, i3] := fun hc y => hc (by simp only [List.mem_cons, List.not_mem_nil, or_false] at y ⊢; rcases y with y | y | y | y | y <;> simp [y])
    exact W.done s _ _ ⟨s1, s2, s3, ⟨g1, pu.isList⟩, ⟨g2, pv.isList⟩, g3, pw.isList⟩ fun h1 tk k1 => ⟨rfl, I.turnedL (fun e o nc g => k1 e o (inch nc) g) free⟩
def iZip3 (K : PySem.W.Frag) (ta : TA) : TI := fun σ H R => ta σ H fun vs H1 => ∃ a b c xs ys zs, vs = [.ref a, .ref b, .ref c] ∧ SqL K H1 a xs ∧ SqL K H1 b ys ∧ SqL K H1 c zs ∧ R (Tr3 K a b c (min (min xs.length ys.length) zs.length)) H1
theorem piZip3 {X : Cx} {e e2 e3 : Expr} {ta : TA} {p pos tpos : Pos} {elts : List Expr} {kk : Nat} (K : PySem.W.Frag) (hg : Gl X "zip") (hm : X.mg "zip" = none) (ha : PA X [e, e2, e3] ta) (hK : X.K = K := by rfl)
    (plain1 : starEach [e, e2, e3] X.env = (false, eval e X.env) :: starEach [e2, e3] X.env := by rfl)
    (plain2 : (backTo pos (starEach [e2, e3] X.env)).any (·.1) = false := by rfl) : PI X (.Tuple elts kk tpos) (.Call (.Name "zip" p) [e, e2, e3] [] pos) (iZip3 K ta) := hK ▸ ⟨fun pins s σ H R I wish => by
  refine Call_ (ld_blt I hg hm PyProof.Rows.boot_zip (PyProof.Rows.callWith_type1 (thn (ha.run pos pins s σ H _ I wish) fun us s1 came => ?_) plain1 plain2))
  obtain ⟨vs, H1, I1, rel, a, b, c, xs, ys, zs, rfl, sa, sb, sc, k⟩ := came
  cases rel with | cons p1 q => ?_
  cases q with | cons p2 q => ?_
  cases q with | cons p3 q => ?_
  cases q
  cases p1
  cases p2
  cases p3
  obtain ⟨its, -, pl, -⟩ := I1.list sa
  obtain ⟨its2, -, pl2, -⟩ := I1.list sb
  obtain ⟨its3, -, pl3, -⟩ := I1.list sc
  have la : a < s1.heap.objs.size := pl.isList.elim fun o y => Heap.lt_size y.1
  have lb : b < s1.heap.objs.size := pl2.isList.elim fun o y => Heap.lt_size y.1
  have lc : c < s1.heap.objs.size := pl3.isList.elim fun o y => Heap.lt_size y.1
  refine zip_begins3 (begins_list a its.toArray) (begins_list b its2.toArray) (begins_list c its3.toArray) pl.isList pl2.isList pl3.isList fun h' hz hTI hTO q1 q2 q3 hsz old => wpAny_pyIter_zip hz ?_
  refine ⟨_, [s1.heap.objs.size + 5, s1.heap.objs.size + 3, s1.heap.objs.size + 4, s1.heap.objs.size, s1.heap.objs.size + 1, s1.heap.objs.size + 2], _, _, H1, rfl, I1.kept (t' := s1.toks) old,
    turnTr3 (zip_sep3 (fp1 := [a]) (fp2 := [b]) (fp3 := [c]) (fun e he => by rw [List.mem_singleton.mp he]; exact la) (fun e he => by rw [List.mem_singleton.mp he]; exact lb) (fun e he => by rw [List.mem_singleton.mp he]; exact lc)) (Nat.ne_of_lt la) (Nat.ne_of_lt (Nat.lt_succ_of_lt lb)) (Nat.ne_of_lt (Nat.lt_succ_of_lt (Nat.lt_succ_of_lt lc))),
    ⟨Nat.zero_le _, hz, hTI, ⟨_, _, _, hTO⟩, ⟨_, q1, rfl, rfl⟩, ⟨_, q2, rfl, rfl⟩, ⟨_, q3, rfl, rfl⟩⟩, fun e he => ?_, k⟩
  have ge : s1.heap.objs.size ≤ e := by
    simp only [List.mem_cons, List.not_mem_nil, or_false] at he
    rcases he with e | e | e | e | e | e <;> rw [e] <;> simp
  exact I1.fpOk ge (I1.hok.fresh ge)⟩
section
variable {K : PySem.W.Frag} {ss : Sl} {mem m1 : List Mc}
theorem three_data {B : Hp} {vs : List V} {d e f : D} (h : RepAll K B vs [d, e, f]) : ∃ u v w, vs = [u, v, w] ∧ Rep K B u d ∧ Rep K B v e ∧ Rep K B w f := by
  cases h with
  | cons a h =>
    cases h with
    | cons b h =>
      cases h with
      | cons c h =>
        cases h
        exact ⟨_, _, _, rfl, a, b, c⟩
theorem di_zip3 {ds es fs : List D} {t : TA} (h : DA K t ss mem [.lst ds, .lst es, .lst fs] m1) : DI K (iZip3 K t) ss mem (min (min ds.length es.length) fs.length) (fun i => .tup [nthD ds i, nthD es i, nthD fs i]) m1 := fun B H al σ R S k =>
  h B H al σ _ S fun B1 H1 al1 vs P1 S1 r1 => by
    obtain ⟨u, v, w, rfl, q1, q2, q3⟩ := three_data r1
    cases q1 with
    | @lst a xs _ sa ra =>
      cases q2 with
      | @lst b ys _ sb rb =>
        cases q3 with
        | @lst c zs _ sc rc =>
          have lx : min (min xs.length ys.length) zs.length = min (min ds.length es.length) fs.length := by rw [ra.len, rb.len, rc.len]
          refine ⟨a, b, c, xs, ys, zs, rfl, S1.seqL sa, S1.seqL sb, S1.seqL sc, k _ _ _ _ P1 S1 fun B2 H2 al2 σ2 ss2 mem2 grown S2 => ?_⟩
          have ta := S2.seqL (grown.seq sa)
          have tb := S2.seqL (grown.seq sb)
          have tc := S2.seqL (grown.seq sc)
          refine ⟨fun i hi => ⟨⟨by rw [lx]; exact hi, xs, ys, zs, ta, tb, tc, rfl⟩, fun x H' y => ?_⟩, fun i hi => ⟨by rw [lx]; exact hi, xs, ys, zs, ta, tb, tc, rfl⟩⟩
          obtain ⟨p, p1, p2⟩ := ra.get (nthD_get (show i < ds.length by omega))
          obtain ⟨q, q1, q2⟩ := rb.get (nthD_get (show i < es.length by omega))
          obtain ⟨r, r1, r2⟩ := rc.get (nthD_get (show i < fs.length by omega))
          obtain ⟨T, x', y', z', rfl, nT, rfl, f, g, o⟩ := y
          cases p1.symm.trans (f xs ta)
          cases q1.symm.trans (g ys tb)
          cases r1.symm.trans (o zs tc)
          obtain ⟨P, S'⟩ := S2.lay (o := .tup [p, q, r]) nT
          exact ⟨_, P, S', .tup upd_same (.cons (Rep.mono P.same _ (Rep.mono grown _ p2)) (.cons (Rep.mono P.same _ (Rep.mono grown _ q2)) (.cons (Rep.mono P.same _ (Rep.mono grown _ r2)) .nil)))⟩
end
end DL
end
section
set_option Elab.async false
set_option linter.all false
set_option maxRecDepth 100000
set_option maxHeartbeats 4000000
namespace K33
open PySem PySem.Spec PyProof.Rows L2 DL
def topS (i : Nat) : Stmt := PySem.Challenge.pw_coolway_k33_whole_logs.main.body.getD i (.Pass ⟨0, 0, 0, 0⟩)
abbrev s__wall : Stmt := topS 0
theorem sc__wall : FnScope ["k"] ["k"] (defScope s__wall) := ⟨rfl, rfl, rfl, by decide +kernel, rfl, by decide +kernel, by decide +kernel⟩
abbrev s_is_whole : Stmt := topS 12
theorem sc_is_whole : FnScope ["value"] ["value"] (defScope s_is_whole) := ⟨rfl, rfl, rfl, by decide +kernel, rfl, by decide +kernel, by decide +kernel⟩
abbrev s_is_between : Stmt := topS 13
theorem sc_is_between : FnScope ["value", "low", "high"] ["value", "low", "high"] (defScope s_is_between) := ⟨rfl, rfl, rfl, by decide +kernel, rfl, by decide +kernel, by decide +kernel⟩
abbrev s_is_group : Stmt := topS 14
theorem sc_is_group : FnScope ["value", "size"] ["value", "size"] (defScope s_is_group) := ⟨rfl, rfl, rfl, by decide +kernel, rfl, by decide +kernel, by decide +kernel⟩
abbrev s_first_state : Stmt := topS 16
theorem sc_first_state : FnScope ["late"] ["late"] (defScope s_first_state) := ⟨rfl, rfl, rfl, by decide +kernel, rfl, by decide +kernel, by decide +kernel⟩
abbrev s_is_done : Stmt := topS 17
theorem sc_is_done : FnScope ["chart", "state"] ["chart", "state"] (defScope s_is_done) := ⟨rfl, rfl, rfl, by decide +kernel, rfl, by decide +kernel, by decide +kernel⟩
abbrev s_roads_from : Stmt := topS 18
theorem sc_roads_from : FnScope ["chart", "place", "index", "road"] ["chart", "place"] (defScope s_roads_from) := ⟨rfl, rfl, rfl, by decide +kernel, rfl, by decide +kernel, by decide +kernel⟩
abbrev s_possible_moves : Stmt := topS 19
theorem sc_possible_moves : FnScope ["chart", "state"] ["chart", "state"] (defScope s_possible_moves) := ⟨rfl, rfl, rfl, by decide +kernel, rfl, by decide +kernel, by decide +kernel⟩
abbrev s_pairs_from : Stmt := topS 20
theorem sc_pairs_from : FnScope ["chart", "place", "most", "top", "leading", "pieces", "road"] ["chart", "place", "most"] (defScope s_pairs_from) := ⟨rfl, rfl, rfl, by decide +kernel, rfl, by decide +kernel, by decide +kernel⟩
abbrev s_move_cost : Stmt := topS 21
theorem sc_move_cost : FnScope ["chart", "state", "move"] ["chart", "state", "move"] (defScope s_move_cost) := ⟨rfl, rfl, rfl, by decide +kernel, rfl, by decide +kernel, by decide +kernel⟩
abbrev s_pieces_cost : Stmt := topS 22
theorem sc_pieces_cost : FnScope ["chart", "place", "pieces", "price"] ["chart", "place", "pieces"] (defScope s_pieces_cost) := ⟨rfl, rfl, rfl, by decide +kernel, rfl, by decide +kernel, by decide +kernel⟩
abbrev s_after_hour : Stmt := topS 23
theorem sc_after_hour : FnScope ["ice", "warm", "melt"] ["ice", "warm", "melt"] (defScope s_after_hour) := ⟨rfl, rfl, rfl, by decide +kernel, rfl, by decide +kernel, by decide +kernel⟩
abbrev s_move_results : Stmt := topS 24
theorem sc_move_results : FnScope ["chart", "state", "move", "ice", "warm", "late", "bear", "pieces", "road", "place", "hours", "melt", "_", "found", "more"] ["chart", "state", "move"] (defScope s_move_results) := ⟨rfl, rfl, rfl, by decide +kernel, rfl, by decide +kernel, by decide +kernel⟩
abbrev s_Map___init__ : Stmt := inClass (topS 34) 0
theorem sc_Map___init__ : FnScope ["self", "places", "roads", "prices", "box"] ["self", "places", "roads", "prices", "box"] (defScope s_Map___init__) := ⟨rfl, rfl, rfl, by decide +kernel, rfl, by decide +kernel, by decide +kernel⟩
abbrev s_Map_places : Stmt := inClass (topS 34) 1
theorem sc_Map_places : FnScope ["self"] ["self"] (defScope s_Map_places) := ⟨rfl, rfl, rfl, by decide +kernel, rfl, by decide +kernel, by decide +kernel⟩
abbrev s_Map_roads : Stmt := inClass (topS 34) 2
theorem sc_Map_roads : FnScope ["self"] ["self"] (defScope s_Map_roads) := ⟨rfl, rfl, rfl, by decide +kernel, rfl, by decide +kernel, by decide +kernel⟩
abbrev s_Map_prices : Stmt := inClass (topS 34) 3
theorem sc_Map_prices : FnScope ["self"] ["self"] (defScope s_Map_prices) := ⟨rfl, rfl, rfl, by decide +kernel, rfl, by decide +kernel, by decide +kernel⟩
abbrev s_Map_box : Stmt := inClass (topS 34) 4
theorem sc_Map_box : FnScope ["self"] ["self"] (defScope s_Map_box) := ⟨rfl, rfl, rfl, by decide +kernel, rfl, by decide +kernel, by decide +kernel⟩
abbrev s_Map___len__ : Stmt := inClass (topS 34) 5
theorem sc_Map___len__ : FnScope ["self"] ["self"] (defScope s_Map___len__) := ⟨rfl, rfl, rfl, by decide +kernel, rfl, by decide +kernel, by decide +kernel⟩
abbrev s_are_roads : Stmt := topS 35
theorem sc_are_roads : FnScope ["places", "roads", "road", "at"] ["places", "roads"] (defScope s_are_roads) := ⟨rfl, rfl, rfl, by decide +kernel, rfl, by decide +kernel, by decide +kernel⟩
abbrev s_is_road : Stmt := topS 36
theorem sc_is_road : FnScope ["places", "road", "first", "second", "hours", "melt"] ["places", "road"] (defScope s_is_road) := ⟨rfl, rfl, rfl, by decide +kernel, rfl, by decide +kernel, by decide +kernel⟩
abbrev s_are_prices : Stmt := topS 37
theorem sc_are_prices : FnScope ["places", "prices", "price"] ["places", "prices"] (defScope s_are_prices) := ⟨rfl, rfl, rfl, by decide +kernel, rfl, by decide +kernel, by decide +kernel⟩
abbrev s_is_box : Stmt := topS 38
theorem sc_is_box : FnScope ["box"] ["box"] (defScope s_is_box) := ⟨rfl, rfl, rfl, by decide +kernel, rfl, by decide +kernel, by decide +kernel⟩
abbrev s_is_state : Stmt := topS 39
theorem sc_is_state : FnScope ["chart", "state", "room", "bear", "tops", "part", "top"] ["chart", "state"] (defScope s_is_state) := ⟨rfl, rfl, rfl, by decide +kernel, rfl, by decide +kernel, by decide +kernel⟩
abbrev s_is_move : Stmt := topS 40
theorem sc_is_move : FnScope ["chart", "state", "move"] ["chart", "state", "move"] (defScope s_is_move) := ⟨rfl, rfl, rfl, by decide +kernel, rfl, by decide +kernel, by decide +kernel⟩
abbrev s_check_map : Stmt := topS 41
theorem sc_check_map : FnScope ["chart"] ["chart"] (defScope s_check_map) := ⟨rfl, rfl, rfl, by decide +kernel, rfl, by decide +kernel, by decide +kernel⟩
abbrev s_check_state : Stmt := topS 42
theorem sc_check_state : FnScope ["chart", "state"] ["chart", "state"] (defScope s_check_state) := ⟨rfl, rfl, rfl, by decide +kernel, rfl, by decide +kernel, by decide +kernel⟩
abbrev s_check_lateness : Stmt := topS 43
theorem sc_check_lateness : FnScope ["late"] ["late"] (defScope s_check_lateness) := ⟨rfl, rfl, rfl, by decide +kernel, rfl, by decide +kernel, by decide +kernel⟩
abbrev s_check_move : Stmt := topS 44
theorem sc_check_move : FnScope ["chart", "state", "move"] ["chart", "state", "move"] (defScope s_check_move) := ⟨rfl, rfl, rfl, by decide +kernel, rfl, by decide +kernel, by decide +kernel⟩
abbrev s_after_log : Stmt := topS 47
theorem sc_after_log : FnScope ["chart", "state", "log"] ["chart", "state", "log"] (defScope s_after_log) := ⟨rfl, rfl, rfl, by decide +kernel, rfl, by decide +kernel, by decide +kernel⟩
abbrev s_spent : Stmt := topS 48
theorem sc_spent : FnScope ["chart", "state", "log", "states", "before", "pair"] ["chart", "state", "log"] (defScope s_spent) := ⟨rfl, rfl, rfl, by decide +kernel, rfl, by decide +kernel, by decide +kernel⟩
abbrev s_melted : Stmt := topS 49
theorem sc_melted : FnScope ["chart", "state", "log", "states", "before", "pair", "after"] ["chart", "state", "log"] (defScope s_melted) := ⟨rfl, rfl, rfl, by decide +kernel, rfl, by decide +kernel, by decide +kernel⟩
abbrev s_states_with : Stmt := topS 50
theorem sc_states_with : FnScope ["chart", "state", "log"] ["chart", "state", "log"] (defScope s_states_with) := ⟨rfl, rfl, rfl, by decide +kernel, rfl, by decide +kernel, by decide +kernel⟩
abbrev s_states_after : Stmt := topS 51
theorem sc_states_after : FnScope ["chart", "state", "log", "found", "index", "pair"] ["chart", "state", "log"] (defScope s_states_after) := ⟨rfl, rfl, rfl, by decide +kernel, rfl, by decide +kernel, by decide +kernel⟩
abbrev s_state_after : Stmt := topS 52
theorem sc_state_after : FnScope ["chart", "state", "pair", "move", "more"] ["chart", "state", "pair"] (defScope s_state_after) := ⟨rfl, rfl, rfl, by decide +kernel, rfl, by decide +kernel, by decide +kernel⟩
abbrev s_Moment___init__ : Stmt := inClass (topS 54) 0
theorem sc_Moment___init__ : FnScope ["self", "states", "pairs", "begin"] ["self", "states", "pairs", "begin"] (defScope s_Moment___init__) := ⟨rfl, rfl, rfl, by decide +kernel, rfl, by decide +kernel, by decide +kernel⟩
abbrev s_Session___init__ : Stmt := inClass (topS 57) 0
theorem sc_Session___init__ : FnScope ["self", "chart", "late"] ["self", "chart", "late"] (defScope s_Session___init__) := ⟨rfl, rfl, rfl, by decide +kernel, rfl, by decide +kernel, by decide +kernel⟩
abbrev s_Session_state : Stmt := inClass (topS 57) 1
theorem sc_Session_state : FnScope ["self"] ["self"] (defScope s_Session_state) := ⟨rfl, rfl, rfl, by decide +kernel, rfl, by decide +kernel, by decide +kernel⟩
abbrev s_Session_journal : Stmt := inClass (topS 57) 2
theorem sc_Session_journal : FnScope ["self"] ["self"] (defScope s_Session_journal) := ⟨rfl, rfl, rfl, by decide +kernel, rfl, by decide +kernel, by decide +kernel⟩
abbrev s_Session___len__ : Stmt := inClass (topS 57) 3
theorem sc_Session___len__ : FnScope ["self"] ["self"] (defScope s_Session___len__) := ⟨rfl, rfl, rfl, by decide +kernel, rfl, by decide +kernel, by decide +kernel⟩
abbrev s_Session___iter__ : Stmt := inClass (topS 57) 4
theorem sc_Session___iter__ : FnScope ["self"] ["self"] (defScope s_Session___iter__) := ⟨rfl, rfl, rfl, by decide +kernel, rfl, by decide +kernel, by decide +kernel⟩
abbrev s_Session_is_there : Stmt := inClass (topS 57) 5
theorem sc_Session_is_there : FnScope ["self"] ["self"] (defScope s_Session_is_there) := ⟨rfl, rfl, rfl, by decide +kernel, rfl, by decide +kernel, by decide +kernel⟩
abbrev s_Session_paid : Stmt := inClass (topS 57) 6
theorem sc_Session_paid : FnScope ["self", "now", "state", "pair"] ["self"] (defScope s_Session_paid) := ⟨rfl, rfl, rfl, by decide +kernel, rfl, by decide +kernel, by decide +kernel⟩
abbrev s_Session_drive : Stmt := inClass (topS 57) 7
theorem sc_Session_drive : FnScope ["self", "move", "more", "now", "state", "end"] ["self", "move", "more"] (defScope s_Session_drive) := ⟨rfl, rfl, rfl, by decide +kernel, rfl, by decide +kernel, by decide +kernel⟩
abbrev s_Session_undo : Stmt := inClass (topS 57) 8
theorem sc_Session_undo : FnScope ["self", "now", "kept"] ["self"] (defScope s_Session_undo) := ⟨rfl, rfl, rfl, by decide +kernel, rfl, by decide +kernel, by decide +kernel⟩
abbrev s_Session_branch : Stmt := inClass (topS 57) 9
theorem sc_Session_branch : FnScope ["self", "now", "other"] ["self"] (defScope s_Session_branch) := ⟨rfl, rfl, rfl, by decide +kernel, rfl, by decide +kernel, by decide +kernel⟩
abbrev s_Session_tried : Stmt := inClass (topS 57) 12
theorem sc_Session_tried : FnScope ["self", "log"] ["self", "log"] (defScope s_Session_tried) := ⟨rfl, rfl, rfl, by decide +kernel, rfl, by decide +kernel, by decide +kernel⟩
abbrev s__law_draw : Stmt := topS 59
theorem sc__law_draw : FnScope ["_law_cell", "_law_k", "_law_many", "_law_primes"] ["_law_cell", "_law_k", "_law_many"] (defScope s__law_draw) := ⟨rfl, rfl, rfl, by decide +kernel, rfl, by decide +kernel, by decide +kernel⟩
abbrev s__law_cell_at : Stmt := topS 60
theorem sc__law_cell_at : FnScope ["_law_script", "_law_k"] ["_law_script", "_law_k"] (defScope s__law_cell_at) := ⟨rfl, rfl, rfl, by decide +kernel, rfl, by decide +kernel, by decide +kernel⟩
abbrev s__law_digits : Stmt := topS 61
theorem sc__law_digits : FnScope ["_law_script", "_law_at", "_law_many", "_law_base", "_law_cell", "_law_found", "_law_remaining", "_law_turn", "_law_blend", "_law_more"] ["_law_script", "_law_at", "_law_many", "_law_base"] (defScope s__law_digits) := ⟨rfl, rfl, rfl, by decide +kernel, rfl, by decide +kernel, by decide +kernel⟩
abbrev s__law_take : Stmt := topS 62
theorem sc__law_take : FnScope ["_law_draws", "_law_many"] ["_law_draws", "_law_many"] (defScope s__law_take) := ⟨rfl, rfl, rfl, by decide +kernel, rfl, by decide +kernel, by decide +kernel⟩
abbrev s__law_pool : Stmt := topS 63
theorem sc__law_pool : FnScope ["_law_script", "_law_bases", "_law_found", "_law_at", "_law_base"] ["_law_script", "_law_bases"] (defScope s__law_pool) := ⟨rfl, rfl, rfl, by decide +kernel, rfl, by decide +kernel, by decide +kernel⟩
abbrev s__law_net : Stmt := topS 64
theorem sc__law_net : FnScope ["_law_draws", "_law_most", "_law_many", "_law_rows", "_law_at", "_law_turn", "_law_first", "_law_last", "_law_fees", "_law_place"] ["_law_draws", "_law_most"] (defScope s__law_net) := ⟨rfl, rfl, rfl, by decide +kernel, rfl, by decide +kernel, by decide +kernel⟩
abbrev s__law_state : Stmt := topS 65
theorem sc__law_state : FnScope ["_law_draws", "_law_net_here"] ["_law_draws", "_law_net_here"] (defScope s__law_state) := ⟨rfl, rfl, rfl, by decide +kernel, rfl, by decide +kernel, by decide +kernel⟩
abbrev s__law_roads : Stmt := topS 66
theorem sc__law_roads : FnScope ["_law_net_here", "_law_place", "_law_at", "_law_road"] ["_law_net_here", "_law_place"] (defScope s__law_roads) := ⟨rfl, rfl, rfl, by decide +kernel, rfl, by decide +kernel, by decide +kernel⟩
abbrev s__law_load : Stmt := topS 67
theorem sc__law_load : FnScope ["_law_net_here", "_law_ice", "_law_warm", "_law_melt", "_law_hours", "_law_hour"] ["_law_net_here", "_law_ice", "_law_warm", "_law_melt", "_law_hours"] (defScope s__law_load) := ⟨rfl, rfl, rfl, by decide +kernel, rfl, by decide +kernel, by decide +kernel⟩
abbrev s__law_end : Stmt := topS 68
theorem sc__law_end : FnScope ["_law_net_here", "_law_state_here", "_law_move", "_law_more", "_law_road", "_law_load_here"] ["_law_net_here", "_law_state_here", "_law_move", "_law_more"] (defScope s__law_end) := ⟨rfl, rfl, rfl, by decide +kernel, rfl, by decide +kernel, by decide +kernel⟩
abbrev s__law_moves : Stmt := topS 69
theorem sc__law_moves : FnScope ["_law_net_here", "_law_state_here", "_law_found", "_law_most", "_law_pieces", "_law_road"] ["_law_net_here", "_law_state_here"] (defScope s__law_moves) := ⟨rfl, rfl, rfl, by decide +kernel, rfl, by decide +kernel, by decide +kernel⟩
abbrev s__law_cost : Stmt := topS 70
theorem sc__law_cost : FnScope ["_law_net_here", "_law_place", "_law_move"] ["_law_net_here", "_law_place", "_law_move"] (defScope s__law_cost) := ⟨rfl, rfl, rfl, by decide +kernel, rfl, by decide +kernel, by decide +kernel⟩
abbrev s__law_is_empty : Stmt := topS 71
theorem sc__law_is_empty : FnScope ["_law_session"] ["_law_session"] (defScope s__law_is_empty) := ⟨rfl, rfl, rfl, by decide +kernel, rfl, by decide +kernel, by decide +kernel⟩
abbrev s__law_walked : Stmt := topS 72
theorem sc__law_walked : FnScope ["_law_net_here", "_law_state_here", "_law_past", "_law_found", "_law_move", "_law_more"] ["_law_net_here", "_law_state_here", "_law_past"] (defScope s__law_walked) := ⟨rfl, rfl, rfl, by decide +kernel, rfl, by decide +kernel, by decide +kernel⟩
abbrev s__law_price : Stmt := topS 73
theorem sc__law_price : FnScope ["_law_net_here", "_law_state_here", "_law_past", "_law_spots", "_law_at", "_law_move", "_law_more"] ["_law_net_here", "_law_state_here", "_law_past"] (defScope s__law_price) := ⟨rfl, rfl, rfl, by decide +kernel, rfl, by decide +kernel, by decide +kernel⟩
abbrev s__law_right : Stmt := topS 74
theorem sc__law_right : FnScope ["_law_session", "_law_net_here", "_law_start", "_law_past", "_law_state_here", "_law_note_here"] ["_law_session", "_law_net_here", "_law_start", "_law_past"] (defScope s__law_right) := ⟨rfl, rfl, rfl, by decide +kernel, rfl, by decide +kernel, by decide +kernel⟩
abbrev s__law_note : Stmt := topS 75
theorem sc__law_note : FnScope ["_law_draws", "_law_net_here", "_law_state_here", "_law_most", "_law_able", "_law_many"] ["_law_draws", "_law_net_here", "_law_state_here", "_law_most"] (defScope s__law_note) := ⟨rfl, rfl, rfl, by decide +kernel, rfl, by decide +kernel, by decide +kernel⟩
abbrev s__law_branch_right : Stmt := topS 76
theorem sc__law_branch_right : FnScope ["_law_session", "_law_net_here", "_law_start", "_law_past", "_law_note_here", "_law_other", "_law_later"] ["_law_session", "_law_net_here", "_law_start", "_law_past", "_law_note_here"] (defScope s__law_branch_right) := ⟨rfl, rfl, rfl, by decide +kernel, rfl, by decide +kernel, by decide +kernel⟩
abbrev s__law_log_right : Stmt := topS 77
theorem sc__law_log_right : FnScope ["_law_draws", "_law_net_here", "_law_chart", "_law_state_here", "_law_log", "_law_now", "_law_turn", "_law_note_here", "_law_later", "_law_spots", "_law_at", "_law_move", "_law_more"] ["_law_draws", "_law_net_here", "_law_chart", "_law_state_here"] (defScope s__law_log_right) := ⟨rfl, rfl, rfl, by decide +kernel, rfl, by decide +kernel, by decide +kernel⟩
abbrev s_law : Stmt := topS 78
theorem sc_law : FnScope ["_law_script", "_law_draws", "_law_turn", "_law_net_here", "_law_late_here", "_law_past", "_law_chart", "_law_start", "_law_session", "_law_more", "_law_state_here", "_law_kind", "_law_note_here"] ["_law_script"] (defScope s_law) := ⟨rfl, rfl, rfl, by decide +kernel, rfl, by decide +kernel, by decide +kernel⟩
/-- what the top has left: where each def stands, and the classes' facts -/
structure Txt (K : PySem.W.Frag) (mg : Str → Option Value) where
  a__wall : Addr
  fd__wall : FuncData
  F__wall : Fun K "_wall" "_wall" s__wall a__wall fd__wall
  b__wall : Binds K fd__wall ["k"] []
  g__wall : mg "_wall" = some (.ref a__wall)
  a_is_whole : Addr
  fd_is_whole : FuncData
  F_is_whole : Fun K "is_whole" "is_whole" s_is_whole a_is_whole fd_is_whole
  b_is_whole : Binds K fd_is_whole ["value"] []
  g_is_whole : mg "is_whole" = some (.ref a_is_whole)
  a_is_between : Addr
  fd_is_between : FuncData
  F_is_between : Fun K "is_between" "is_between" s_is_between a_is_between fd_is_between
  b_is_between : Binds K fd_is_between ["value", "low", "high"] []
  g_is_between : mg "is_between" = some (.ref a_is_between)
  a_is_group : Addr
  fd_is_group : FuncData
  F_is_group : Fun K "is_group" "is_group" s_is_group a_is_group fd_is_group
  b_is_group : Binds K fd_is_group ["value", "size"] []
  g_is_group : mg "is_group" = some (.ref a_is_group)
  a_first_state : Addr
  fd_first_state : FuncData
  F_first_state : Fun K "first_state" "first_state" s_first_state a_first_state fd_first_state
  b_first_state : Binds K fd_first_state ["late"] []
  g_first_state : mg "first_state" = some (.ref a_first_state)
  a_is_done : Addr
  fd_is_done : FuncData
  F_is_done : Fun K "is_done" "is_done" s_is_done a_is_done fd_is_done
  b_is_done : Binds K fd_is_done ["chart", "state"] []
  g_is_done : mg "is_done" = some (.ref a_is_done)
  a_roads_from : Addr
  fd_roads_from : FuncData
  F_roads_from : Fun K "roads_from" "roads_from" s_roads_from a_roads_from fd_roads_from
  b_roads_from : Binds K fd_roads_from ["chart", "place"] []
  g_roads_from : mg "roads_from" = some (.ref a_roads_from)
  a_possible_moves : Addr
  fd_possible_moves : FuncData
  F_possible_moves : Fun K "possible_moves" "possible_moves" s_possible_moves a_possible_moves fd_possible_moves
  b_possible_moves : Binds K fd_possible_moves ["chart", "state"] []
  g_possible_moves : mg "possible_moves" = some (.ref a_possible_moves)
  a_pairs_from : Addr
  fd_pairs_from : FuncData
  F_pairs_from : Fun K "pairs_from" "pairs_from" s_pairs_from a_pairs_from fd_pairs_from
  b_pairs_from : Binds K fd_pairs_from ["chart", "place", "most"] []
  g_pairs_from : mg "pairs_from" = some (.ref a_pairs_from)
  a_move_cost : Addr
  fd_move_cost : FuncData
  F_move_cost : Fun K "move_cost" "move_cost" s_move_cost a_move_cost fd_move_cost
  b_move_cost : Binds K fd_move_cost ["chart", "state", "move"] []
  g_move_cost : mg "move_cost" = some (.ref a_move_cost)
  a_pieces_cost : Addr
  fd_pieces_cost : FuncData
  F_pieces_cost : Fun K "pieces_cost" "pieces_cost" s_pieces_cost a_pieces_cost fd_pieces_cost
  b_pieces_cost : Binds K fd_pieces_cost ["chart", "place", "pieces"] []
  g_pieces_cost : mg "pieces_cost" = some (.ref a_pieces_cost)
  a_after_hour : Addr
  fd_after_hour : FuncData
  F_after_hour : Fun K "after_hour" "after_hour" s_after_hour a_after_hour fd_after_hour
  b_after_hour : Binds K fd_after_hour ["ice", "warm", "melt"] []
  g_after_hour : mg "after_hour" = some (.ref a_after_hour)
  a_move_results : Addr
  fd_move_results : FuncData
  F_move_results : Fun K "move_results" "move_results" s_move_results a_move_results fd_move_results
  b_move_results : Binds K fd_move_results ["chart", "state", "move"] []
  g_move_results : mg "move_results" = some (.ref a_move_results)
  a_Map___init__ : Addr
  fd_Map___init__ : FuncData
  F_Map___init__ : Fun K "__init__" "Map.__init__" s_Map___init__ a_Map___init__ fd_Map___init__
  b_Map___init__ : Binds K fd_Map___init__ ["self", "places", "roads", "prices", "box"] []
  a_Map_places : Addr
  fd_Map_places : FuncData
  F_Map_places : Fun K "places" "Map.places" s_Map_places a_Map_places fd_Map_places
  b_Map_places : Binds K fd_Map_places ["self"] []
  a_Map_roads : Addr
  fd_Map_roads : FuncData
  F_Map_roads : Fun K "roads" "Map.roads" s_Map_roads a_Map_roads fd_Map_roads
  b_Map_roads : Binds K fd_Map_roads ["self"] []
  a_Map_prices : Addr
  fd_Map_prices : FuncData
  F_Map_prices : Fun K "prices" "Map.prices" s_Map_prices a_Map_prices fd_Map_prices
  b_Map_prices : Binds K fd_Map_prices ["self"] []
  a_Map_box : Addr
  fd_Map_box : FuncData
  F_Map_box : Fun K "box" "Map.box" s_Map_box a_Map_box fd_Map_box
  b_Map_box : Binds K fd_Map_box ["self"] []
  a_Map___len__ : Addr
  fd_Map___len__ : FuncData
  F_Map___len__ : Fun K "__len__" "Map.__len__" s_Map___len__ a_Map___len__ fd_Map___len__
  b_Map___len__ : Binds K fd_Map___len__ ["self"] []
  a_are_roads : Addr
  fd_are_roads : FuncData
  F_are_roads : Fun K "are_roads" "are_roads" s_are_roads a_are_roads fd_are_roads
  b_are_roads : Binds K fd_are_roads ["places", "roads"] []
  g_are_roads : mg "are_roads" = some (.ref a_are_roads)
  a_is_road : Addr
  fd_is_road : FuncData
  F_is_road : Fun K "is_road" "is_road" s_is_road a_is_road fd_is_road
  b_is_road : Binds K fd_is_road ["places", "road"] []
  g_is_road : mg "is_road" = some (.ref a_is_road)
  a_are_prices : Addr
  fd_are_prices : FuncData
  F_are_prices : Fun K "are_prices" "are_prices" s_are_prices a_are_prices fd_are_prices
  b_are_prices : Binds K fd_are_prices ["places", "prices"] []
  g_are_prices : mg "are_prices" = some (.ref a_are_prices)
  a_is_box : Addr
  fd_is_box : FuncData
  F_is_box : Fun K "is_box" "is_box" s_is_box a_is_box fd_is_box
  b_is_box : Binds K fd_is_box ["box"] []
  g_is_box : mg "is_box" = some (.ref a_is_box)
  a_is_state : Addr
  fd_is_state : FuncData
  F_is_state : Fun K "is_state" "is_state" s_is_state a_is_state fd_is_state
  b_is_state : Binds K fd_is_state ["chart", "state"] []
  g_is_state : mg "is_state" = some (.ref a_is_state)
  a_is_move : Addr
  fd_is_move : FuncData
  F_is_move : Fun K "is_move" "is_move" s_is_move a_is_move fd_is_move
  b_is_move : Binds K fd_is_move ["chart", "state", "move"] []
  g_is_move : mg "is_move" = some (.ref a_is_move)
  a_check_map : Addr
  fd_check_map : FuncData
  F_check_map : Fun K "check_map" "check_map" s_check_map a_check_map fd_check_map
  b_check_map : Binds K fd_check_map ["chart"] []
  g_check_map : mg "check_map" = some (.ref a_check_map)
  a_check_state : Addr
  fd_check_state : FuncData
  F_check_state : Fun K "check_state" "check_state" s_check_state a_check_state fd_check_state
  b_check_state : Binds K fd_check_state ["chart", "state"] []
  g_check_state : mg "check_state" = some (.ref a_check_state)
  a_check_lateness : Addr
  fd_check_lateness : FuncData
  F_check_lateness : Fun K "check_lateness" "check_lateness" s_check_lateness a_check_lateness fd_check_lateness
  b_check_lateness : Binds K fd_check_lateness ["late"] []
  g_check_lateness : mg "check_lateness" = some (.ref a_check_lateness)
  a_check_move : Addr
  fd_check_move : FuncData
  F_check_move : Fun K "check_move" "check_move" s_check_move a_check_move fd_check_move
  b_check_move : Binds K fd_check_move ["chart", "state", "move"] []
  g_check_move : mg "check_move" = some (.ref a_check_move)
  a_after_log : Addr
  fd_after_log : FuncData
  F_after_log : Fun K "after_log" "after_log" s_after_log a_after_log fd_after_log
  b_after_log : Binds K fd_after_log ["chart", "state", "log"] []
  g_after_log : mg "after_log" = some (.ref a_after_log)
  a_spent : Addr
  fd_spent : FuncData
  F_spent : Fun K "spent" "spent" s_spent a_spent fd_spent
  b_spent : Binds K fd_spent ["chart", "state", "log"] []
  g_spent : mg "spent" = some (.ref a_spent)
  a_melted : Addr
  fd_melted : FuncData
  F_melted : Fun K "melted" "melted" s_melted a_melted fd_melted
  b_melted : Binds K fd_melted ["chart", "state", "log"] []
  g_melted : mg "melted" = some (.ref a_melted)
  a_states_with : Addr
  fd_states_with : FuncData
  F_states_with : Fun K "states_with" "states_with" s_states_with a_states_with fd_states_with
  b_states_with : Binds K fd_states_with ["chart", "state", "log"] []
  g_states_with : mg "states_with" = some (.ref a_states_with)
  a_states_after : Addr
  fd_states_after : FuncData
  F_states_after : Fun K "states_after" "states_after" s_states_after a_states_after fd_states_after
  b_states_after : Binds K fd_states_after ["chart", "state", "log"] []
  g_states_after : mg "states_after" = some (.ref a_states_after)
  a_state_after : Addr
  fd_state_after : FuncData
  F_state_after : Fun K "state_after" "state_after" s_state_after a_state_after fd_state_after
  b_state_after : Binds K fd_state_after ["chart", "state", "pair"] []
  g_state_after : mg "state_after" = some (.ref a_state_after)
  a_Moment___init__ : Addr
  fd_Moment___init__ : FuncData
  F_Moment___init__ : Fun K "__init__" "Moment.__init__" s_Moment___init__ a_Moment___init__ fd_Moment___init__
  b_Moment___init__ : Binds K fd_Moment___init__ ["self", "states", "pairs", "begin"] []
  a_Session___init__ : Addr
  fd_Session___init__ : FuncData
  F_Session___init__ : Fun K "__init__" "Session.__init__" s_Session___init__ a_Session___init__ fd_Session___init__
  b_Session___init__ : Binds K fd_Session___init__ ["self", "chart", "late"] []
  a_Session_state : Addr
  fd_Session_state : FuncData
  F_Session_state : Fun K "state" "Session.state" s_Session_state a_Session_state fd_Session_state
  b_Session_state : Binds K fd_Session_state ["self"] []
  a_Session_journal : Addr
  fd_Session_journal : FuncData
  F_Session_journal : Fun K "journal" "Session.journal" s_Session_journal a_Session_journal fd_Session_journal
  b_Session_journal : Binds K fd_Session_journal ["self"] []
  a_Session___len__ : Addr
  fd_Session___len__ : FuncData
  F_Session___len__ : Fun K "__len__" "Session.__len__" s_Session___len__ a_Session___len__ fd_Session___len__
  b_Session___len__ : Binds K fd_Session___len__ ["self"] []
  a_Session___iter__ : Addr
  fd_Session___iter__ : FuncData
  F_Session___iter__ : Fun K "__iter__" "Session.__iter__" s_Session___iter__ a_Session___iter__ fd_Session___iter__
  b_Session___iter__ : Binds K fd_Session___iter__ ["self"] []
  a_Session_is_there : Addr
  fd_Session_is_there : FuncData
  F_Session_is_there : Fun K "is_there" "Session.is_there" s_Session_is_there a_Session_is_there fd_Session_is_there
  b_Session_is_there : Binds K fd_Session_is_there ["self"] []
  a_Session_paid : Addr
  fd_Session_paid : FuncData
  F_Session_paid : Fun K "paid" "Session.paid" s_Session_paid a_Session_paid fd_Session_paid
  b_Session_paid : Binds K fd_Session_paid ["self"] []
  a_Session_drive : Addr
  fd_Session_drive : FuncData
  F_Session_drive : Fun K "drive" "Session.drive" s_Session_drive a_Session_drive fd_Session_drive
  b_Session_drive : Binds K fd_Session_drive ["self", "move", "more"] []
  a_Session_undo : Addr
  fd_Session_undo : FuncData
  F_Session_undo : Fun K "undo" "Session.undo" s_Session_undo a_Session_undo fd_Session_undo
  b_Session_undo : Binds K fd_Session_undo ["self"] []
  a_Session_branch : Addr
  fd_Session_branch : FuncData
  F_Session_branch : Fun K "branch" "Session.branch" s_Session_branch a_Session_branch fd_Session_branch
  b_Session_branch : Binds K fd_Session_branch ["self"] []
  a_Session_tried : Addr
  fd_Session_tried : FuncData
  F_Session_tried : Fun K "tried" "Session.tried" s_Session_tried a_Session_tried fd_Session_tried
  b_Session_tried : Binds K fd_Session_tried ["self", "log"] []
  a__law_draw : Addr
  fd__law_draw : FuncData
  F__law_draw : Fun K "_law_draw" "_law_draw" s__law_draw a__law_draw fd__law_draw
  b__law_draw : Binds K fd__law_draw ["_law_cell", "_law_k", "_law_many"] []
  g__law_draw : mg "_law_draw" = some (.ref a__law_draw)
  a__law_cell_at : Addr
  fd__law_cell_at : FuncData
  F__law_cell_at : Fun K "_law_cell_at" "_law_cell_at" s__law_cell_at a__law_cell_at fd__law_cell_at
  b__law_cell_at : Binds K fd__law_cell_at ["_law_script", "_law_k"] []
  g__law_cell_at : mg "_law_cell_at" = some (.ref a__law_cell_at)
  a__law_digits : Addr
  fd__law_digits : FuncData
  F__law_digits : Fun K "_law_digits" "_law_digits" s__law_digits a__law_digits fd__law_digits
  b__law_digits : Binds K fd__law_digits ["_law_script", "_law_at", "_law_many", "_law_base"] []
  g__law_digits : mg "_law_digits" = some (.ref a__law_digits)
  a__law_take : Addr
  fd__law_take : FuncData
  F__law_take : Fun K "_law_take" "_law_take" s__law_take a__law_take fd__law_take
  b__law_take : Binds K fd__law_take ["_law_draws", "_law_many"] []
  g__law_take : mg "_law_take" = some (.ref a__law_take)
  a__law_pool : Addr
  fd__law_pool : FuncData
  F__law_pool : Fun K "_law_pool" "_law_pool" s__law_pool a__law_pool fd__law_pool
  b__law_pool : Binds K fd__law_pool ["_law_script", "_law_bases"] []
  g__law_pool : mg "_law_pool" = some (.ref a__law_pool)
  a__law_net : Addr
  fd__law_net : FuncData
  F__law_net : Fun K "_law_net" "_law_net" s__law_net a__law_net fd__law_net
  b__law_net : Binds K fd__law_net ["_law_draws", "_law_most"] []
  g__law_net : mg "_law_net" = some (.ref a__law_net)
  a__law_state : Addr
  fd__law_state : FuncData
  F__law_state : Fun K "_law_state" "_law_state" s__law_state a__law_state fd__law_state
  b__law_state : Binds K fd__law_state ["_law_draws", "_law_net_here"] []
  g__law_state : mg "_law_state" = some (.ref a__law_state)
  a__law_roads : Addr
  fd__law_roads : FuncData
  F__law_roads : Fun K "_law_roads" "_law_roads" s__law_roads a__law_roads fd__law_roads
  b__law_roads : Binds K fd__law_roads ["_law_net_here", "_law_place"] []
  g__law_roads : mg "_law_roads" = some (.ref a__law_roads)
  a__law_load : Addr
  fd__law_load : FuncData
  F__law_load : Fun K "_law_load" "_law_load" s__law_load a__law_load fd__law_load
  b__law_load : Binds K fd__law_load ["_law_net_here", "_law_ice", "_law_warm", "_law_melt", "_law_hours"] []
  g__law_load : mg "_law_load" = some (.ref a__law_load)
  a__law_end : Addr
  fd__law_end : FuncData
  F__law_end : Fun K "_law_end" "_law_end" s__law_end a__law_end fd__law_end
  b__law_end : Binds K fd__law_end ["_law_net_here", "_law_state_here", "_law_move", "_law_more"] []
  g__law_end : mg "_law_end" = some (.ref a__law_end)
  a__law_moves : Addr
  fd__law_moves : FuncData
  F__law_moves : Fun K "_law_moves" "_law_moves" s__law_moves a__law_moves fd__law_moves
  b__law_moves : Binds K fd__law_moves ["_law_net_here", "_law_state_here"] []
  g__law_moves : mg "_law_moves" = some (.ref a__law_moves)
  a__law_cost : Addr
  fd__law_cost : FuncData
  F__law_cost : Fun K "_law_cost" "_law_cost" s__law_cost a__law_cost fd__law_cost
  b__law_cost : Binds K fd__law_cost ["_law_net_here", "_law_place", "_law_move"] []
  g__law_cost : mg "_law_cost" = some (.ref a__law_cost)
  a__law_is_empty : Addr
  fd__law_is_empty : FuncData
  F__law_is_empty : Fun K "_law_is_empty" "_law_is_empty" s__law_is_empty a__law_is_empty fd__law_is_empty
  b__law_is_empty : Binds K fd__law_is_empty ["_law_session"] []
  g__law_is_empty : mg "_law_is_empty" = some (.ref a__law_is_empty)
  a__law_walked : Addr
  fd__law_walked : FuncData
  F__law_walked : Fun K "_law_walked" "_law_walked" s__law_walked a__law_walked fd__law_walked
  b__law_walked : Binds K fd__law_walked ["_law_net_here", "_law_state_here", "_law_past"] []
  g__law_walked : mg "_law_walked" = some (.ref a__law_walked)
  a__law_price : Addr
  fd__law_price : FuncData
  F__law_price : Fun K "_law_price" "_law_price" s__law_price a__law_price fd__law_price
  b__law_price : Binds K fd__law_price ["_law_net_here", "_law_state_here", "_law_past"] []
  g__law_price : mg "_law_price" = some (.ref a__law_price)
  a__law_right : Addr
  fd__law_right : FuncData
  F__law_right : Fun K "_law_right" "_law_right" s__law_right a__law_right fd__law_right
  b__law_right : Binds K fd__law_right ["_law_session", "_law_net_here", "_law_start", "_law_past"] []
  g__law_right : mg "_law_right" = some (.ref a__law_right)
  a__law_note : Addr
  fd__law_note : FuncData
  F__law_note : Fun K "_law_note" "_law_note" s__law_note a__law_note fd__law_note
  b__law_note : Binds K fd__law_note ["_law_draws", "_law_net_here", "_law_state_here", "_law_most"] []
  g__law_note : mg "_law_note" = some (.ref a__law_note)
  a__law_branch_right : Addr
  fd__law_branch_right : FuncData
  F__law_branch_right : Fun K "_law_branch_right" "_law_branch_right" s__law_branch_right a__law_branch_right fd__law_branch_right
  b__law_branch_right : Binds K fd__law_branch_right ["_law_session", "_law_net_here", "_law_start", "_law_past", "_law_note_here"] []
  g__law_branch_right : mg "_law_branch_right" = some (.ref a__law_branch_right)
  a__law_log_right : Addr
  fd__law_log_right : FuncData
  F__law_log_right : Fun K "_law_log_right" "_law_log_right" s__law_log_right a__law_log_right fd__law_log_right
  b__law_log_right : Binds K fd__law_log_right ["_law_draws", "_law_net_here", "_law_chart", "_law_state_here"] []
  g__law_log_right : mg "_law_log_right" = some (.ref a__law_log_right)
  a_law : Addr
  fd_law : FuncData
  F_law : Fun K "law" "law" s_law a_law fd_law
  b_law : Binds K fd_law ["_law_script"] []
  g_law : mg "law" = some (.ref a_law)
  C_Map : Addr
  g_Map : mg "Map" = some (.ref C_Map)
  T_Map : ClsT K C_Map
  mk_Map : Mk K C_Map a_Map___init__
  na_Map__places : NoAttr K C_Map "_places"
  na_Map__roads : NoAttr K C_Map "_roads"
  na_Map__prices : NoAttr K C_Map "_prices"
  na_Map__box : NoAttr K C_Map "_box"
  p_Map_places : Addr
  PO_places : PropOf K C_Map "places" p_Map_places a_Map_places
  p_Map_roads : Addr
  PO_roads : PropOf K C_Map "roads" p_Map_roads a_Map_roads
  p_Map_prices : Addr
  PO_prices : PropOf K C_Map "prices" p_Map_prices a_Map_prices
  p_Map_box : Addr
  PO_box : PropOf K C_Map "box" p_Map_box a_Map_box
  L_Map : Meth K C_Map "__len__" a_Map___len__
  C_Session : Addr
  g_Session : mg "Session" = some (.ref C_Session)
  T_Session : ClsT K C_Session
  mk_Session : Mk K C_Session a_Session___init__
  na_Session__chart : NoAttr K C_Session "_chart"
  na_Session__now : NoAttr K C_Session "_now"
  p_Session_state : Addr
  PO_state : PropOf K C_Session "state" p_Session_state a_Session_state
  p_Session_journal : Addr
  PO_journal : PropOf K C_Session "journal" p_Session_journal a_Session_journal
  L_Session : Meth K C_Session "__len__" a_Session___len__
  M_Session___iter__ : Meth K C_Session "__iter__" a_Session___iter__
  M_Session_is_there : Meth K C_Session "is_there" a_Session_is_there
  M_Session_paid : Meth K C_Session "paid" a_Session_paid
  M_Session_drive : Meth K C_Session "drive" a_Session_drive
  M_Session_undo : Meth K C_Session "undo" a_Session_undo
  M_Session_branch : Meth K C_Session "branch" a_Session_branch
  M_Session_tried : Meth K C_Session "tried" a_Session_tried
  C_Moment : Addr
  g_Moment : mg "Moment" = some (.ref C_Moment)
  T_Moment : ClsT K C_Moment
  mk_Moment : Mk K C_Moment a_Moment___init__
  na_Moment_states : NoAttr K C_Moment "states"
  na_Moment_pairs : NoAttr K C_Moment "pairs"
  na_Moment_begin : NoAttr K C_Moment "begin"
  C_NothingDone : Addr
  g_NothingDone : mg "NothingDone" = some (.ref C_NothingDone)
  e_NothingDone : PySem.W.excIn K C_NothingDone [.type "ValueError", .type "Exception", .type "BaseException", .type "object"] "ValueError.__new__" = true
  kp_NothingDone : PySem.W.keepIn K (.ref C_NothingDone) = true
  sb_NothingDone : PySem.W.subIn K (.ref C_NothingDone) (.type "BaseException") = some true
  ty_NothingDone : PySem.W.typeIn K (.ref C_NothingDone) = some (.type "type")
  xm_NothingDone_NothingDone : PySem.W.exmOne K (.ref C_NothingDone) (.ref C_NothingDone) = some true
  n_len : mg "len" = none
  n_range : mg "range" = none
  n_isinstance : mg "isinstance" = none
  n_all : mg "all" = none
  n_zip : mg "zip" = none
  n_enumerate : mg "enumerate" = none
  n_sorted : mg "sorted" = none
  n_set : mg "set" = none
  n_min : mg "min" = none
  n_int : mg "int" = none
  n_bool : mg "bool" = none
  n_tuple : mg "tuple" = none
  n_list : mg "list" = none
  n_iter : mg "iter" = none
  n_sum : mg "sum" = none
  n_abs : mg "abs" = none
  k_MOST_PLACES : ∃ t, mg "MOST_PLACES" = some (.int (5) t)
  k_MOST_ROADS : ∃ t, mg "MOST_ROADS" = some (.int (7) t)
  k_MOST_HOURS : ∃ t, mg "MOST_HOURS" = some (.int (4) t)
  k_MOST_MELT : ∃ t, mg "MOST_MELT" = some (.int (3) t)
  k_MOST_PRICE : ∃ t, mg "MOST_PRICE" = some (.int (9) t)
  k_MOST_ROOM : ∃ t, mg "MOST_ROOM" = some (.int (6) t)
  k_MOST_BEAR : ∃ t, mg "MOST_BEAR" = some (.int (2) t)
  k_MOST_LATE : ∃ t, mg "MOST_LATE" = some (.int (4) t)
  k_MOST_PAIRS : ∃ t, mg "MOST_PAIRS" = some (.int (12) t)
section
variable {X : Cx}
theorem pe_globI {x : Str} {i : Int} {pos : Pos} (hg : Gl X x) (h : ∃ t, X.mg x = some (.int i t)) (hd : (x == ("__debug__" : Str)) = false := by decide) : PE X (.Name x pos) (tC (.int i)) := by
  obtain ⟨t, h⟩ := h
  exact pe_glob hg h ⟨t, rfl⟩ hd
end
end K33
end
section
set_option Elab.async false
set_option linter.all false
set_option maxRecDepth 100000
set_option maxHeartbeats 4000000
namespace K33
open PySem PySem.Spec PyProof.Rows L2 DL
section
variable {P : Program} {w : World} {K : PySem.W.Frag} {mg : Str → Option Value} {base : Heap} {k : Nat}
theorem Txt.cl (T : Txt K mg) : Cls K T.C_Map := T.T_Map.cl
/-! getters -/
theorem get_places (T : Txt K mg) : FnOk P w K mg base CX0 (k + 1) T.a_Map_places T.fd_Map_places ["self"] (getSp T.C_Map "_places") := by
  refine T.F_Map_places.ok sc_Map_places (fun vs H Q E h => ?_) (fun cdv A outer s H vs Q E hr h => ?_)
  · obtain ⟨a, dx, fs, v, e, _⟩ := h
    rw [e]
    rfl
  · obtain ⟨a, dx, fs, v, rfl, ea, l, q⟩ := h
    refine ⟨_, pss_one (ps_ret (pe_fld (pv 0) rfl)), ?_⟩
    exact ⟨.ref a, rfl, a, T.C_Map, dx, fs, v, rfl, ea, T.cl, T.na_Map__places, l, q⟩
theorem get_roads (T : Txt K mg) : FnOk P w K mg base CX0 (k + 1) T.a_Map_roads T.fd_Map_roads ["self"] (getSp T.C_Map "_roads") := by
  refine T.F_Map_roads.ok sc_Map_roads (fun vs H Q E h => ?_) (fun cdv A outer s H vs Q E hr h => ?_)
  · obtain ⟨a, dx, fs, v, e, _⟩ := h
    rw [e]
    rfl
  · obtain ⟨a, dx, fs, v, rfl, ea, l, q⟩ := h
    refine ⟨_, pss_one (ps_ret (pe_fld (pv 0) rfl)), ?_⟩
    exact ⟨.ref a, rfl, a, T.C_Map, dx, fs, v, rfl, ea, T.cl, T.na_Map__roads, l, q⟩
theorem get_prices (T : Txt K mg) : FnOk P w K mg base CX0 (k + 1) T.a_Map_prices T.fd_Map_prices ["self"] (getSp T.C_Map "_prices") := by
  refine T.F_Map_prices.ok sc_Map_prices (fun vs H Q E h => ?_) (fun cdv A outer s H vs Q E hr h => ?_)
  · obtain ⟨a, dx, fs, v, e, _⟩ := h
    rw [e]
    rfl
  · obtain ⟨a, dx, fs, v, rfl, ea, l, q⟩ := h
    refine ⟨_, pss_one (ps_ret (pe_fld (pv 0) rfl)), ?_⟩
    exact ⟨.ref a, rfl, a, T.C_Map, dx, fs, v, rfl, ea, T.cl, T.na_Map__prices, l, q⟩
theorem get_box (T : Txt K mg) : FnOk P w K mg base CX0 (k + 1) T.a_Map_box T.fd_Map_box ["self"] (getSp T.C_Map "_box") := by
  refine T.F_Map_box.ok sc_Map_box (fun vs H Q E h => ?_) (fun cdv A outer s H vs Q E hr h => ?_)
  · obtain ⟨a, dx, fs, v, e, _⟩ := h
    rw [e]
    rfl
  · obtain ⟨a, dx, fs, v, rfl, ea, l, q⟩ := h
    refine ⟨_, pss_one (ps_ret (pe_fld (pv 0) rfl)), ?_⟩
    exact ⟨.ref a, rfl, a, T.C_Map, dx, fs, v, rfl, ea, T.cl, T.na_Map__box, l, q⟩
/-! is_whole -/
def isWhole : D → Bool
  | .int _ => true
  | _ => false
def R_is_whole (ds : List D) (d : D) : Prop := ∃ v T, ds = [v] ∧ v.tyn = some T ∧ d = .bl (isWhole v)
theorem ok_is_whole (T : Txt K mg) : FnOk P w K mg base CX0 1 T.a_is_whole T.fd_is_whole ["value"] (spP K 1 R_is_whole) := by
  refine fnP T.F_is_whole sc_is_whole rfl (fun cdv A outer s H E hr => ?_)
  refine ⟨_, (pss_one (ps_ret (pe_and (pe_callB (callIsi K) (by rfl) T.n_isinstance (by decide +kernel) (pa_cons (pv 0) (pa_cons (pe_bltn (v := .ty "int") (by rfl) T.n_int (by decide +kernel) rfl) pa_nil))) (pe_one (pe_not (pe_callB (callIsi K) (by rfl) T.n_isinstance (by decide +kernel) (pa_cons (pv 0) (pa_cons (pe_bltn (v := .ty "bool") (by rfl) T.n_bool (by decide +kernel) rfl) pa_nil)))))))), ?_⟩
  rintro ds d ⟨v, T, rfl, hv, rfl⟩ -
  refine .rt (ds_ret ?_)
  have hi : ∀ {c b}, kitB T c = some b → DT K (tCB (rIsi K) (tCons (tVar 0) (tCons (tC (.ty c)) tNil))) [some (.dat v)] [] (.dat (.bl b)) [] := fun h => dt_isi (dt_var rfl) hv h
  cases v with
  | non => cases hv; exact dt_andV_f (hi (by decide +kernel))
  | bl b => cases hv; exact dt_andV_t (b := false) (hi (by decide +kernel)) (dt_notV (b := true) (hi (by decide +kernel)))
  | int i => cases hv; exact dt_andV_t (b := true) (hi (by decide +kernel)) (dt_notV (b := false) (hi (by decide +kernel)))
  | str x => cases hv; exact dt_andV_f (hi (by decide +kernel))
  | lst x => cases hv; exact dt_andV_f (hi (by decide +kernel))
  | tup x => cases hv; exact dt_andV_f (hi (by decide +kernel))
  | obj C x => cases hv
  | ctp x => cases hv
  | dic x => cases hv
  | rls x => cases hv
/-! is_between, for ints -/
def R_is_between (ds : List D) (d : D) : Prop := ∃ i lo hi, ds = [.int i, .int lo, .int hi] ∧ d = .bl (decide (lo ≤ i) && decide (i ≤ hi))
theorem ok_is_between (T : Txt K mg) : FnOk P w K mg base CX0 2 T.a_is_between T.fd_is_between ["value", "low", "high"] (spP K 3 R_is_between) := by
  refine fnP T.F_is_between sc_is_between rfl (fun cdv A outer s H E hr => ?_)
  refine ⟨_, (pss_one (ps_ret (pe_and (pe_call (ok_is_whole T) (hr.mono (by decide)) (by rfl) T.g_is_whole T.F_is_whole.kp T.b_is_whole .nil pass0 (pa_cons (pv 0) pa_nil)) (pe_one (pe_chain op_le op_le (pv 1) (pv 0) (pv 2)))))), ?_⟩
  rintro ds d ⟨i, lo, hi, rfl, rfl⟩ -
  exact .rt (ds_ret (dt_andV_t (b := true) (dt_call (da_cons (dt_var rfl) da_nil) ⟨_, _, rfl, rfl, rfl⟩) (dt_chain (dt_var rfl) (dt_var rfl) (dt_var rfl))))
/-! is_group, for tuples -/
def R_is_group (ds : List D) (d : D) : Prop := ∃ es n, ds = [.tup es, .int n] ∧ d = .bl (decide ((es.length : Int) = n))
theorem ok_is_group (T : Txt K mg) : FnOk P w K mg base CX0 1 T.a_is_group T.fd_is_group ["value", "size"] (spP K 2 R_is_group) := by
  refine fnP T.F_is_group sc_is_group rfl (fun cdv A outer s H E hr => ?_)
  refine ⟨_, (pss_one (ps_ret (pe_and (pe_callB (callIsi K) (by rfl) T.n_isinstance (by decide +kernel) (pa_cons (pv 0) (pa_cons (pe_bltn (v := .ty "tuple") (by rfl) T.n_tuple (by decide +kernel) rfl) pa_nil))) (pe_one (pe_cmpR op_eq (pe_callB (callLen K) (by rfl) T.n_len PySem.boot_len (pa_cons (pv 0) pa_nil)) (pv 1) (nomark _)))))), ?_⟩
  rintro ds d ⟨es, n, rfl, rfl⟩ -
  exact .rt (ds_ret (dt_andV_t (b := true) (dt_isi (dt_var rfl) rfl (by decide +kernel)) (dt_eqI (dt_lenT (dt_var rfl)) (dt_var rfl))))
end
end K33
end
section
set_option Elab.async false
set_option linter.all false
set_option maxRecDepth 100000
set_option maxHeartbeats 4000000
namespace K33
open PySem PySem.Spec PyProof.Rows L2 DL
/-! ### the mathematics: maps, states, moves, results -/
structure Road where
  a : Int
  b : Int
  h : Int
  m : Int
structure MapD where
  places : Int
  roads : List Road
  prices : List (Option Int)
  room : Int
  bear : Int
structure StD where
  p : Int
  i : Int
  w : Int
  l : Int
def Road.row (r : Road) : List Int := [r.a, r.b, r.h, r.m]
def roadD (r : Road) : D := .tup [.int r.a, .int r.b, .int r.h, .int r.m]
def optD : Option Int → D
  | none => .non
  | some p => .int p
def mapFs (M : MapD) : List (Str × D) := [("_places", .int M.places), ("_roads", .tup (M.roads.map roadD)), ("_prices", .tup (M.prices.map optD)), ("_box", .tup [.int M.room, .int M.bear])]
def mapD (C : Addr) (M : MapD) : D := .obj C (mapFs M)
def stD (s : StD) : D := .tup [.int s.p, .int s.i, .int s.w, .int s.l]
def MapD.road (M : MapD) (i : Nat) : Road := M.roads.getD i ⟨0, 0, 0, 0⟩
def MapD.price (M : MapD) (p : Int) : Option Int := M.prices.getD p.toNat none
structure Road.Ok (n : Int) (r : Road) : Prop where
  a0 : 0 ≤ r.a
  ab : r.a < r.b
  bn : r.b ≤ n - 1
  h1 : 1 ≤ r.h
  h4 : r.h ≤ 4
  m0 : 0 ≤ r.m
  m3 : r.m ≤ 3
structure MapD.Ok (M : MapD) : Prop where
  p2 : 2 ≤ M.places
  p5 : M.places ≤ 5
  r1 : 1 ≤ M.roads.length
  r7 : M.roads.length ≤ 7
  rd : ∀ r ∈ M.roads, r.Ok M.places
  asc : ∀ i, i + 1 < M.roads.length → HT.lexLt (M.road i).row (M.road (i + 1)).row = true
  pl : (M.prices.length : Int) = M.places
  pr : ∀ p ∈ M.prices, ∀ x, p = some x → 1 ≤ x ∧ x ≤ 9
  m1 : 1 ≤ M.room
  m6 : M.room ≤ 6
  b0 : 0 ≤ M.bear
  b2 : M.bear ≤ 2
structure StD.Ok (M : MapD) (s : StD) : Prop where
  p0 : 0 ≤ s.p
  p1 : s.p ≤ M.places - 1
  i0 : 0 ≤ s.i
  i1 : s.i ≤ M.room
  w0 : 0 ≤ s.w
  w1 : s.w ≤ M.bear
  l0 : 0 ≤ s.l
  l1 : s.l ≤ 4
/-- the roads that lead from a place -/
def MapD.lead (M : MapD) (p : Int) : List Nat := (List.range M.roads.length).filter fun i => decide ((M.road i).a = p)
def MapD.most (M : MapD) (s : StD) : Int := if M.price s.p = none then 0 else M.room - s.i
def mvD (pieces : Nat) (r : Nat) : D := .tup [.int (pieces : Nat), .int (r : Nat)]
def MapD.moves (M : MapD) (s : StD) : List D := (List.range (M.most s + 1).toNat).flatMap fun i => (M.lead s.p).map (mvD i)
/-- the pairs of at most so many pieces and a road at a place -/
def MapD.top (M : MapD) (p most : Int) : Int := if M.price p = none then 0 else most
def MapD.pairs (M : MapD) (p most : Int) : List D := (List.range (M.top p most + 1).toNat).flatMap fun i => (M.lead p).map (mvD i)
/-- one hour -/
def hour (m : Int) (x : Int × Int) : Int × Int := if x.1 ≥ m then (x.1 - m, x.2) else (0, x.2 + 1)
def hours (m : Int) (x : Int × Int) : Nat → Int × Int
  | 0 => x
  | n + 1 => hour m (hours m x n)
def endD (M : MapD) (r : Road) (l : Int) (x : Int × Int) (more : Nat) : D := if x.2 ≤ M.bear then .tup [.int r.b, .int x.1, .int x.2, .int (l - more)] else .non
def MapD.ends (M : MapD) (s : StD) (pieces : Nat) (road : Nat) : List D :=
  (List.range (s.l + 1).toNat).map fun more => endD M (M.road road) s.l (hours (M.road road).m (s.i + pieces, s.w) ((M.road road).h.toNat + more)) more
/-! lists by place -/
theorem range_map {α : Type} (g : D → α) (l : List D) : (List.range l.length).map (fun j => g (nthD l j)) = l.map g := by
  apply List.ext_getElem?
  intro i
  rw [List.getElem?_map, List.getElem?_map]
  by_cases h : i < l.length
  · rw [List.getElem?_range h, nthD_get h]
    rfl
  · rw [List.getElem?_eq_none (by simpa using h), List.getElem?_eq_none (by simpa using h)]
    rfl
theorem nth_map {α : Type} (f : α → D) {l : List α} {i : Nat} (h : i < l.length) (z : α) : nthD (l.map f) i = f (l.getD i z) := by
  have e : (l.map f)[i]? = some (nthD (l.map f) i) := nthD_get (by rw [List.length_map]; exact h)
  rw [List.getElem?_map, List.getElem?_eq_getElem h] at e
  rw [List.getD_eq_getElem?_getD, List.getElem?_eq_getElem h]
  exact (Option.some.inj e).symm
theorem atI_map {α : Type} (f : α → D) {l : List α} {i : Int} (h0 : 0 ≤ i) (h : i < l.length) (z : α) : L2.atI (l.map f) i = some (f (l.getD i.toNat z)) := by
  have hn : i.toNat < l.length := by omega
  have ei : i = ((i.toNat : Nat) : Int) := by omega
  rw [ei]
  refine atI_nat ?_
  rw [List.getElem?_map, List.getElem?_eq_getElem hn, Int.toNat_natCast, List.getD_eq_getElem?_getD, List.getElem?_eq_getElem hn]
  rfl
section
variable {P : Program} {w : World} {K : PySem.W.Frag} {mg : Str → Option Value} {base : Heap} {k : Nat}
/-! ### roads_from -/
def R_roads_from (C : Addr) (ds : List D) (d : D) : Prop := ∃ M p, ds = [mapD C M, .int p] ∧ M.roads.length ≤ 7 ∧ d = .lst ((M.lead p).map fun i => .int (i : Nat))
theorem ok_roads_from (T : Txt K mg) : FnOk P w K mg base CX0 3 T.a_roads_from T.fd_roads_from ["chart", "place"] (spP K 2 (R_roads_from T.C_Map)) := by
  refine fnP T.F_roads_from sc_roads_from rfl (fun cdv A outer s H E hr => ?_)
  refine ⟨_, (pss_one (ps_ret (pe_lc (own := [("index", 2), ("road", 3)]) rfl sc_roads_from.nd (piEnumT K (by rfl) T.n_enumerate (pa_cons (pe_prop (pv 0) T.cl T.PO_roads (get_roads (k := 0) T) (hr.mono (by decide)) T.b_Map_roads .nil pass0 rfl) pa_nil)) (blkOk_by (own := [("index", 2), ("road", 3)]) (N := ["chart", "place", "index", "road"]) (sc := defScope s_roads_from) (by decide +kernel)) (fun _ _ _ _ _ => (pgTup K 2 (pgs_cons (pg_name (i := 2) sc_roads_from.nd rfl (.inl rfl)) (pgs_cons (pg_name (i := 3) sc_roads_from.nd rfl (.inl rfl)) pgs_nil)))) (fun _ _ _ _ _ => (pts_one (pt_cmpR op_eq (pe_ix (ixT K) (pv 3) pe_int (fun _ _ => rfl)) (pv 1) (nomark _)))) (fun _ _ _ _ _ => (pv 2))))), ?_⟩
  rintro ds d ⟨M, p, rfl, hl, rfl⟩ -
  refine .rt (ds_ret ?_)
  have e : M.roads.length = (M.roads.map roadD).length := by rw [List.length_map]
  unfold MapD.lead
  rw [e]
  refine dt_lcIf (di_enumT (dt_prop (dt_var rfl) rfl)) (fun i => .int (i : Nat)) (fun i => decide ((M.road i).a = p)) (by rw [← e]; omega) fun i hi => ?_
  rw [← e] at hi
  refine ⟨_, _, dg_tup (dgs_cons dg_name (dgs_cons dg_name dgs_nil)) rfl, by decide, ?_, fun _ => dt_var rfl⟩
  rw [nth_map roadD hi ⟨0, 0, 0, 0⟩]
  exact db_test (dt_eqI (dt_ixT (dt_var rfl) dt_int rfl) (dt_var rfl))
end
end K33
end
section
set_option Elab.async false
set_option linter.all false
set_option maxRecDepth 100000
set_option maxHeartbeats 4000000
namespace K33
open PySem PySem.Spec PyProof.Rows L2 DL
section
variable {P : Program} {w : World} {K : PySem.W.Frag} {mg : Str → Option Value} {base : Heap} {k : Nat}
theorem price_isN (M : MapD) (p : Int) : D.isN (optD (M.price p)) = decide (M.price p = none) := by
  cases M.price p with
  | none => rfl
  | some x => simp [optD, D.isN]
theorem price_at {M : MapD} {p : Int} (h0 : 0 ≤ p) (h : p < M.prices.length) : L2.atI (M.prices.map optD) p = some (optD (M.price p)) := atI_map optD h0 h none
theorem road_at {M : MapD} {r : Nat} (h : r < M.roads.length) : L2.atI (M.roads.map roadD) ((r : Nat) : Int) = some (roadD (M.road r)) := atI_map roadD (by omega) (by omega) ⟨0, 0, 0, 0⟩
theorem lead_lt {M : MapD} {p : Int} {r : Nat} (h : r ∈ M.lead p) : r < M.roads.length := List.mem_range.mp (List.mem_filter.mp h).1
theorem lead_a {M : MapD} {p : Int} {r : Nat} (h : r ∈ M.lead p) : (M.road r).a = p := of_decide_eq_true (List.mem_filter.mp h).2
theorem lead_len (M : MapD) (p : Int) : (M.lead p).length ≤ M.roads.length := by
  have := List.length_filter_le (fun i => decide ((M.road i).a = p)) (List.range M.roads.length)
  rw [List.length_range] at this
  exact this
/-! ### possible_moves -/
structure InR (M : MapD) (s : StD) : Prop where
  r7 : M.roads.length ≤ 7
  p0 : 0 ≤ s.p
  pn : s.p < M.prices.length
  i0 : 0 ≤ s.i
  i1 : s.i ≤ M.room
  m6 : M.room ≤ 6
theorem most_bd {M : MapD} {s : StD} (h : InR M s) : 0 ≤ M.most s ∧ M.most s ≤ 6 := by
  have h1 := h.i0
  have h2 := h.i1
  have h3 := h.m6
  unfold MapD.most
  split <;> omega
def R_pairs (C : Addr) (ds : List D) (d : D) : Prop := ∃ (M : MapD) (p most : Int), ds = [mapD C M, .int p, .int most] ∧ M.roads.length ≤ 7 ∧ 0 ≤ p ∧ p < M.prices.length ∧ 0 ≤ most ∧ most ≤ 6 ∧ d = .lst (M.pairs p most)
theorem ok_pairs_from (T : Txt K mg) : FnOk P w K mg base CX0 4 T.a_pairs_from T.fd_pairs_from ["chart", "place", "most"] (spP K 3 (R_pairs T.C_Map)) := by
  refine fnP T.F_pairs_from sc_pairs_from rfl (fun cdv A outer s H E hr => ?_)
  refine ⟨_, (pss_cons (ps_set (i := 3) sc_pairs_from.nd rfl (.inl rfl) (pe_ifExp (pt_cmp (pc_isN (pe_ix (ixT K) (pe_prop (pv 0) T.cl T.PO_prices (get_prices (k := 0) T) (hr.mono (by decide)) T.b_Map_prices .nil pass0 rfl) (pv 1) (fun _ _ => rfl)))) pe_int (pv 2)))
  (pss_cons (ps_set (i := 4) sc_pairs_from.nd rfl (.inr rfl) (pe_call (ok_roads_from T) (hr.mono (by decide)) (by rfl) T.g_roads_from T.F_roads_from.kp T.b_roads_from .nil pass0 (pa_cons (pv 0) (pa_cons (pv 1) pa_nil))))
  (pss_one (ps_ret (pe_lc2 (own := [("pieces", 5), ("road", 6)]) rfl sc_pairs_from.nd (pi_range1 (by rfl) T.n_range (pa_cons (pe_op op_add (pv 3) pe_int) pa_nil)) (blkOk_by (own := [("pieces", 5), ("road", 6)]) (N := ["chart", "place", "most", "top", "leading", "pieces", "road"]) (sc := defScope s_pairs_from) (by decide +kernel)) (vs1 := [6]) (by decide) (fun _ _ _ _ _ => (pg_name (i := 5) sc_pairs_from.nd rfl (.inl rfl))) (fun _ _ _ _ _ => pts_nil) (fun _ _ _ _ _ => (piList K (pv 4))) (fun _ _ _ _ _ => (pg_name (i := 6) sc_pairs_from.nd rfl (.inl rfl))) (fun _ _ _ _ _ => pts_nil) (fun _ _ _ _ _ => (pe_tup (pa_cons (pv 5) (pa_cons (pv 6) pa_nil))))))))), ?_⟩
  rintro ds d ⟨M, p, most, rfl, h7, p0, pn, m0, m6, rfl⟩ -
  have t6 : 0 ≤ M.top p most ∧ M.top p most ≤ 6 := by
    unfold MapD.top
    split <;> omega
  refine .rt (ds_seq (ss1 := [some (.dat (mapD T.C_Map M)), some (.dat (.int p)), some (.dat (.int most)), some (.dat (.int (M.top p most))), none, none, none]) (m1 := []) (ds_set ?_) ?_)
  · refine dt_if (b := decide (M.price p = none)) (db_b (by rw [← price_isN]; exact dt_isN (dt_ixT (dt_prop (dt_var rfl) rfl) (dt_var rfl) (price_at p0 pn)))) ?_
    unfold MapD.top
    by_cases h : M.price p = none
    · rw [if_pos (decide_eq_true h), if_pos h]
      exact dt_int
    · rw [if_neg (by simpa using h), if_neg h]
      exact dt_var rfl
  · refine ds_seq (ds_set (dt_call (da_cons (dt_var rfl) (da_cons (dt_var rfl) da_nil)) ⟨M, p, rfl, h7, rfl⟩)) ?_
    refine ds_ret ?_
    have hl := lead_len M p
    have e : M.pairs p most = (List.range (M.top p most + 1).toNat).flatMap fun i => (List.range ((M.lead p).map fun i => D.int (i : Nat)).length).map fun j => .tup [.int (0 + (i : Nat)), nthD ((M.lead p).map fun i => D.int (i : Nat)) j] := by
      unfold MapD.pairs
      refine congrArg (fun f => List.flatMap f (List.range (M.top p most + 1).toNat)) (funext fun i => ?_)
      rw [range_map (fun d => D.tup [.int (0 + (i : Nat)), d]), List.map_map]
      refine congrArg (fun f => List.map f (M.lead p)) (funext fun r => ?_)
      show D.tup [.int (i : Nat), .int (r : Nat)] = D.tup [.int (0 + (i : Nat)), .int (r : Nat)]
      rw [Int.zero_add]
    rw [e]
    refine dt_lc2 (di_rng1 (da_cons (dt_i0 (dt_var rfl) dt_int) da_nil) (by omega) (by omega)) _ ?_ (by decide) fun i hi => ⟨_, _, dg_name, by decide, di_list (dt_var rfl), fun j hj => ⟨_, _, dg_name, by decide, dt_tup (da_cons (dt_var rfl) (da_cons (dt_var rfl) da_nil))⟩⟩
    rw [List.length_map]
    have h1 : (M.top p most + 1).toNat * (M.lead p).length ≤ 7 * 7 := Nat.mul_le_mul (by omega) (by omega)
    omega
def R_moves (C : Addr) (ds : List D) (d : D) : Prop := ∃ M s, ds = [mapD C M, stD s] ∧ InR M s ∧ d = .lst (M.moves s)
theorem ok_possible_moves (T : Txt K mg) : FnOk P w K mg base CX0 5 T.a_possible_moves T.fd_possible_moves ["chart", "state"] (spP K 2 (R_moves T.C_Map)) := by
  refine fnP T.F_possible_moves sc_possible_moves rfl (fun cdv A outer s H E hr => ?_)
  refine ⟨_, (pss_one (ps_ret (pe_call (ok_pairs_from T) (hr.mono (by decide)) (by rfl) T.g_pairs_from T.F_pairs_from.kp T.b_pairs_from .nil pass0 (pa_cons (pv 0) (pa_cons (pe_ix (ixT K) (pv 1) pe_int (fun _ _ => rfl)) (pa_cons (pe_op op_sub (pe_ix (ixT K) (pe_prop (pv 0) T.cl T.PO_box (get_box (k := 0) T) (hr.mono (by decide)) T.b_Map_box .nil pass0 rfl) pe_int (fun _ _ => rfl)) (pe_ix (ixT K) (pv 1) pe_int (fun _ _ => rfl))) pa_nil)))))), ?_⟩
  rintro ds d ⟨M, s, rfl, hI, rfl⟩ -
  have i0 := hI.i0
  have i1 := hI.i1
  have m6 := hI.m6
  exact .rt (ds_ret (dt_call (da_cons (dt_var rfl) (da_cons (dt_ixT (dt_var rfl) dt_int rfl) (da_cons (dt_i0 (dt_ixT (dt_prop (dt_var rfl) rfl) dt_int rfl) (dt_ixT (dt_var rfl) dt_int rfl)) da_nil))) ⟨M, s.p, M.room - s.i, rfl, hI.r7, hI.p0, hI.pn, by omega, by omega, rfl⟩))
/-! ### after_hour -/
def R_after_hour (ds : List D) (d : D) : Prop := ∃ i w m, ds = [.int i, .int w, .int m] ∧ d = .tup [.int (hour m (i, w)).1, .int (hour m (i, w)).2]
theorem ok_after_hour (T : Txt K mg) : FnOk P w K mg base CX0 1 T.a_after_hour T.fd_after_hour ["ice", "warm", "melt"] (spP K 3 R_after_hour) := by
  refine fnP T.F_after_hour sc_after_hour rfl (fun cdv A outer s H E hr => ?_)
  refine ⟨_, (pss_cons (ps_if (pt_cmpR op_ge (pv 0) (pv 2) (nomark _)) (pss_one (ps_ret (pe_tup (pa_cons (pe_op op_sub (pv 0) (pv 2)) (pa_cons (pv 1) pa_nil))))) pss_nil)
  (pss_one (ps_ret (pe_tup (pa_cons pe_int (pa_cons (pe_op op_add (pv 1) pe_int) pa_nil)))))), ?_⟩
  rintro ds d ⟨i, w, m, rfl, rfl⟩ -
  unfold hour
  by_cases h : i ≥ m
  · rw [if_pos h]
    refine .rt (ds_stop (ds_if (b := decide (m ≤ i)) (db_test (dt_i0b (dt_var rfl) (dt_var rfl))) ?_))
    rw [if_pos (decide_eq_true h)]
    exact ds_ret (dt_tup (da_cons (dt_i0 (dt_var rfl) (dt_var rfl)) (da_cons (dt_var rfl) da_nil)))
  · rw [if_neg h]
    refine .rt (ds_seq (ss1 := [some (.dat (.int i)), some (.dat (.int w)), some (.dat (.int m))]) (m1 := []) (ds_if (b := decide (m ≤ i)) (db_test (dt_i0b (dt_var rfl) (dt_var rfl))) ?_) ?_)
    · rw [if_neg (by simpa using h)]
      exact ds_next
    · exact ds_ret (dt_tup (da_cons dt_int (da_cons (dt_i0 (dt_var rfl) dt_int) da_nil)))
/-! ### move_results -/
structure InM (M : MapD) (s : StD) (r : Nat) : Prop where
  rl : r < M.roads.length
  h1 : 0 ≤ (M.road r).h
  h4 : (M.road r).h ≤ 4
  l0 : 0 ≤ s.l
  l4 : s.l ≤ 4
def R_results (C : Addr) (ds : List D) (d : D) : Prop := ∃ M s p r, ds = [mapD C M, stD s, mvD p r] ∧ InM M s r ∧ d = .lst (M.ends s p r)
theorem ok_move_results (T : Txt K mg) : FnOk P w K mg base CX0 3 T.a_move_results T.fd_move_results ["chart", "state", "move"] (spP K 3 (R_results T.C_Map)) := by
  refine fnP T.F_move_results sc_move_results rfl (fun cdv A outer s H E hr => ?_)
  refine ⟨_, (pss_cons (ps_asg (pe_slice (slT K) (pv 1) (po_some pe_int) po_none) (pgTup K 3 (pgs_cons (pg_name (i := 3) sc_move_results.nd rfl (.inl rfl)) (pgs_cons (pg_name (i := 4) sc_move_results.nd rfl (.inl rfl)) (pgs_cons (pg_name (i := 5) sc_move_results.nd rfl (.inl rfl)) pgs_nil)))))
  (pss_cons (ps_set (i := 6) sc_move_results.nd rfl (.inl rfl) (pe_ix (ixT K) (pe_prop (pv 0) T.cl T.PO_box (get_box (k := 0) T) (hr.mono (by decide)) T.b_Map_box .nil pass0 rfl) pe_int (fun _ _ => rfl)))
  (pss_cons (ps_asg (pv 2) (pgTup K 2 (pgs_cons (pg_name (i := 7) sc_move_results.nd rfl (.inl rfl)) (pgs_cons (pg_name (i := 8) sc_move_results.nd rfl (.inl rfl)) pgs_nil))))
  (pss_cons (ps_asg (pe_slice (slT K) (pe_ix (ixT K) (pe_prop (pv 0) T.cl T.PO_roads (get_roads (k := 0) T) (hr.mono (by decide)) T.b_Map_roads .nil pass0 rfl) (pv 8) (fun _ _ => rfl)) (po_some pe_int) po_none) (pgTup K 3 (pgs_cons (pg_name (i := 9) sc_move_results.nd rfl (.inl rfl)) (pgs_cons (pg_name (i := 10) sc_move_results.nd rfl (.inl rfl)) (pgs_cons (pg_name (i := 11) sc_move_results.nd rfl (.inl rfl)) pgs_nil)))))
  (pss_cons (ps_set (i := 3) sc_move_results.nd rfl (.inl rfl) (pe_op op_add (pv 3) (pv 7)))
  (pss_cons (ps_for PassesOwn.never rfl (pi_range1 (by rfl) T.n_range (pa_cons (pv 10) pa_nil)) (pg_name (i := 12) sc_move_results.nd rfl (.inl rfl)) (pss_one (ps_asg (pe_call (ok_after_hour T) (hr.mono (by decide)) (by rfl) T.g_after_hour T.F_after_hour.kp T.b_after_hour .nil pass0 (pa_cons (pv 3) (pa_cons (pv 4) (pa_cons (pv 11) pa_nil)))) (pgTup K 2 (pgs_cons (pg_name (i := 3) sc_move_results.nd rfl (.inl rfl)) (pgs_cons (pg_name (i := 4) sc_move_results.nd rfl (.inl rfl)) pgs_nil))))))
  (pss_cons (ps_set (i := 13) sc_move_results.nd rfl (.inl rfl) (pe_lst pa_nil))
  (pss_cons (ps_for PassesOwn.never rfl (pi_range1 (by rfl) T.n_range (pa_cons (pe_op op_add (pv 5) pe_int) pa_nil)) (pg_name (i := 14) sc_move_results.nd rfl (.inl rfl)) (pss_cons (ps_expr (pe_bm PySem.F.plainAttrs_list PySem.F.slot_list_append PySem.F.type_list_append mt_append (pv 13) (pa_cons (pe_ifExp (pt_cmpR op_le (pv 4) (pv 6) (nomark _)) (pe_tup (pa_cons (pv 9) (pa_cons (pv 3) (pa_cons (pv 4) (pa_cons (pe_op op_sub (pv 5) (pv 14)) pa_nil))))) pe_non) pa_nil)))
  (pss_one (ps_asg (pe_call (ok_after_hour T) (hr.mono (by decide)) (by rfl) T.g_after_hour T.F_after_hour.kp T.b_after_hour .nil pass0 (pa_cons (pv 3) (pa_cons (pv 4) (pa_cons (pv 11) pa_nil)))) (pgTup K 2 (pgs_cons (pg_name (i := 3) sc_move_results.nd rfl (.inl rfl)) (pgs_cons (pg_name (i := 4) sc_move_results.nd rfl (.inl rfl)) pgs_nil)))))))
  (pss_one (ps_ret (pv 13))))))))))), ?_⟩
  rintro ds d ⟨M, s, p, r, rfl, hI, rfl⟩ -
  have h1 := hI.h1
  have h4 := hI.h4
  have l0 := hI.l0
  have l4 := hI.l4
  let rd := M.road r
  have hh : rd.h = (M.road r).h := rfl
  let x := fun n => hours rd.m (s.i + (p : Nat), s.w) n
  refine ⟨[.gone], .inl ?_⟩
  refine ds_seq (ds_asg (dt_slT (dt_var rfl) (do_some dt_int) do_none) (dg_tup (dgs_cons dg_name (dgs_cons dg_name (dgs_cons dg_name dgs_nil))) rfl)) ?_
  refine ds_seq (ds_set (dt_ixT (dt_prop (dt_var rfl) rfl) dt_int rfl)) ?_
  refine ds_seq (ds_asg (dt_var rfl) (dg_tup (dgs_cons dg_name (dgs_cons dg_name dgs_nil)) rfl)) ?_
  refine ds_seq (ds_asg (dt_slT (dt_ixT (dt_prop (dt_var rfl) rfl) (dt_var rfl) (road_at hI.rl)) (do_some dt_int) do_none) (dg_tup (dgs_cons dg_name (dgs_cons dg_name (dgs_cons dg_name dgs_nil))) rfl)) ?_
  refine ds_seq (ds_set (dt_i0 (dt_var rfl) (dt_var rfl))) ?_
  let f : Nat → Sl := fun n => [some (.dat (mapD T.C_Map M)), some (.dat (stD s)), some (.dat (mvD p r)), some (.dat (.int (x n).1)), some (.dat (.int (x n).2)), some (.dat (.int s.l)), some (.dat (.int M.bear)), some (.dat (.int (p : Nat))), some (.dat (.int (r : Nat))), some (.dat (.int rd.b)), some (.dat (.int rd.h)), some (.dat (.int rd.m)), none, none, none]
  refine ds_seq (ds_forP [12] f rfl (di_rng1 (da_cons (dt_var rfl) da_nil) (by omega) (by omega)) fun i hi => ⟨_, ds_asg (dt_call (da_cons (dt_var rfl) (da_cons (dt_var rfl) (da_cons (dt_var rfl) da_nil))) ⟨_, _, _, rfl, rfl⟩) (dg_tup (dgs_cons dg_name (dgs_cons dg_name dgs_nil)) rfl), rfl⟩) ?_
  refine ds_seq (ds_set (dt_lstO da_nil)) ?_
  -- the second loop
  let h0 := rd.h.toNat
  let g : Nat → Sl := fun n => [some (.dat (mapD T.C_Map M)), some (.dat (stD s)), some (.dat (mvD p r)), some (.dat (.int (x (h0 + n)).1)), some (.dat (.int (x (h0 + n)).2)), some (.dat (.int s.l)), some (.dat (.int M.bear)), some (.dat (.int (p : Nat))), some (.dat (.int (r : Nat))), some (.dat (.int rd.b)), some (.dat (.int rd.h)), some (.dat (.int rd.m)), none, some (.own 0), none]
  let acc : Nat → List D := fun n => (List.range n).map fun more => endD M rd s.l (x (h0 + more)) more
  refine ds_seq (ds_forW [14] g (fun n => [.lst (acc n)]) rfl (di_rng1 (da_cons (dt_i0 (dt_var rfl) dt_int) da_nil) (by omega) (by omega)) (fun _ => rfl) (fun _ => rfl) fun i hi => ?_) ?_
  · refine ⟨_, [], ds_seq (ss1 := (g i).set 14 (some (.dat (.int (0 + (i : Nat)))))) (m1 := [.lst (acc (i + 1))]) (ds_drop (r := .dat .non) ?_) (ds_asg (dt_call (da_cons (dt_var rfl) (da_cons (dt_var rfl) (da_cons (dt_var rfl) da_nil))) ⟨_, _, _, rfl, rfl⟩) (dg_tup (dgs_cons dg_name (dgs_cons dg_name dgs_nil)) rfl)), rfl⟩
    have ea : acc (i + 1) = acc i ++ [endD M rd s.l (x (h0 + i)) i] := by
      show (List.range (i + 1)).map _ = (List.range i).map _ ++ _
      rw [List.range_succ, List.map_append]
      rfl
    rw [ea]
    have hacc : (acc i).length < 16777216 := by
      show ((List.range i).map _).length < _
      rw [List.length_map, List.length_range]
      omega
    refine dt_append (n := 0) (ds := acc i) (m1 := [.lst (acc i)]) (m2 := [.lst (acc i)]) (dt_var rfl) (da_cons ?_ da_nil) rfl rfl hacc
    refine dt_if (b := decide ((x (h0 + i)).2 ≤ M.bear)) (db_test (dt_i0b (dt_var rfl) (dt_var rfl))) ?_
    unfold endD
    by_cases hb : (x (h0 + i)).2 ≤ M.bear
    · rw [if_pos (decide_eq_true hb), if_pos hb]
      rw [show s.l - ((i : Nat) : Int) = s.l - (0 + ((i : Nat) : Int)) by omega]
      exact dt_tup (da_cons (dt_var rfl) (da_cons (dt_var rfl) (da_cons (dt_var rfl) (da_cons (dt_i0 (dt_var rfl) (dt_var rfl)) da_nil))))
    · rw [if_neg (by simpa using hb), if_neg hb]
      exact dt_non
  · exact ds_ret (dt_frz (n := 0) (m1 := [.lst (acc (s.l + 1).toNat)]) (dt_var rfl) rfl)
end
end K33
end
section
set_option Elab.async false
set_option linter.all false
set_option maxRecDepth 100000
set_option maxHeartbeats 4000000
namespace K33
open PySem PySem.Spec PyProof.Rows L2 DL
section
variable {K : PySem.W.Frag} {ss ss1 ss2 : Sl} {mem m1 m2 m3 m4 : List Mc} {t u : TS} {out : Out} {te : TE}
theorem ds_guard {c : TT} (h : DB K c ss mem false m1) (g : DS K u ss m1 out) : DS K (tSeq (tIfS c t tNext) u) ss mem out := ds_seq (ds_if_f h ds_next) g
theorem db_nt (h : DT K te ss mem (.dat (.bl true)) m1) : DB K (tNot (tB te)) ss mem false m1 := db_not (db_b h)
theorem bt {i lo hi : Int} (h1 : lo ≤ i) (h2 : i ≤ hi) : D.bl true = .bl (decide (lo ≤ i) && decide (i ≤ hi)) := by
  rw [decide_eq_true h1, decide_eq_true h2]
  rfl
theorem gt {n : Int} {es : List D} (h : (es.length : Int) = n) : D.bl true = .bl (decide ((es.length : Int) = n)) := by rw [decide_eq_true h]
/-- all(..) over turns that all hold -/
theorem dt_allT {wi : TI} {g : TG} {vs : List Nat} {n : Nat} {it : Nat → D} (hi : DI K wi ss mem n it m1) (hn : n ≤ 16777216)
    (step : ∀ i, i < n → ∃ s1 ws, DG K g (wipeS ss vs) (it i) s1 ws ∧ (∀ w ∈ ws, w ∈ vs) ∧ DT K te s1 m1 (.dat (.bl true)) m1) : DT K (tCB (rAll K) (tCons (tLc wi g tYes te vs) tNil)) ss mem (.dat (.bl true)) m1 := by
  have h := dt_all (bs := (List.range n).map fun _ => true) (by rw [List.map_map]; exact dt_lcMap hi (fun _ => .bl true) hn step)
  have e : ((List.range n).map fun _ => true).all id = true := by simp
  rw [e] at h
  exact h
end
section
variable {P : Program} {w : World} {K : PySem.W.Frag} {mg : Str → Option Value} {base : Heap} {k : Nat}
def isTrue (Q : List D → Prop) (ds : List D) (d : D) : Prop := Q ds ∧ d = .bl true
/-! ### the parts of a map -/
theorem ok_is_road (T : Txt K mg) : FnOk P w K mg base CX0 3 T.a_is_road T.fd_is_road ["places", "road"] (spP K 2 (isTrue fun ds => ∃ n r, ds = [.int n, roadD r] ∧ r.Ok n)) := by
  refine fnP T.F_is_road sc_is_road rfl (fun cdv A outer s H E hr => ?_)
  refine ⟨_, (pss_cons (ps_if (pt_not (pt_val (pe_call (ok_is_group T) (hr.mono (by decide)) (by rfl) T.g_is_group T.F_is_group.kp T.b_is_group .nil pass0 (pa_cons (pv 1) (pa_cons pe_int pa_nil))))) (pss_one (ps_ret pe_bl)) pss_nil)
  (pss_cons (ps_asg (pv 1) (pgTup K 4 (pgs_cons (pg_name (i := 2) sc_is_road.nd rfl (.inl rfl)) (pgs_cons (pg_name (i := 3) sc_is_road.nd rfl (.inl rfl)) (pgs_cons (pg_name (i := 4) sc_is_road.nd rfl (.inl rfl)) (pgs_cons (pg_name (i := 5) sc_is_road.nd rfl (.inl rfl)) pgs_nil))))))
  (pss_cons (ps_if (PW.pt (pw_or (pt_not (pt_val (pe_call (ok_is_between T) (hr.mono (by decide)) (by rfl) T.g_is_between T.F_is_between.kp T.b_is_between .nil pass0 (pa_cons (pv 2) (pa_cons pe_int (pa_cons (pe_op op_sub (pv 0) pe_int) pa_nil)))))) (pw_or1 (pt_not (pt_val (pe_call (ok_is_between T) (hr.mono (by decide)) (by rfl) T.g_is_between T.F_is_between.kp T.b_is_between .nil pass0 (pa_cons (pv 3) (pa_cons pe_int (pa_cons (pe_op op_sub (pv 0) pe_int) pa_nil))))))))) (pss_one (ps_ret pe_bl)) pss_nil)
  (pss_one (ps_ret (pe_and (pe_cmpR op_lt (pv 2) (pv 3) (nomark _)) (pe_and (pe_call (ok_is_between T) (hr.mono (by decide)) (by rfl) T.g_is_between T.F_is_between.kp T.b_is_between .nil pass0 (pa_cons (pv 4) (pa_cons pe_int (pa_cons (pe_globI (by rfl) T.k_MOST_HOURS) pa_nil)))) (pe_one (pe_call (ok_is_between T) (hr.mono (by decide)) (by rfl) T.g_is_between T.F_is_between.kp T.b_is_between .nil pass0 (pa_cons (pv 5) (pa_cons pe_int (pa_cons (pe_globI (by rfl) T.k_MOST_MELT) pa_nil)))))))))))), ?_⟩
  rintro ds d ⟨⟨n, r, rfl, h⟩, rfl⟩ -
  have a0 := h.a0
  have ab := h.ab
  have bn := h.bn
  have h1 := h.h1
  have h4 := h.h4
  have m0 := h.m0
  have m3 := h.m3
  refine .rt (ds_guard (db_nt (dt_call (da_cons (dt_var rfl) (da_cons dt_int da_nil)) ⟨_, _, rfl, rfl⟩)) ?_)
  refine ds_seq (ds_asg (dt_var rfl) (dg_tup (dgs_cons dg_name (dgs_cons dg_name (dgs_cons dg_name (dgs_cons dg_name dgs_nil)))) rfl)) ?_
  refine ds_guard (db_or_f (db_nt (dt_call (da_cons (dt_var rfl) (da_cons dt_int (da_cons (dt_i0 (dt_var rfl) dt_int) da_nil))) ⟨r.a, 0, n - 1, rfl, bt a0 (by omega)⟩)) (db_nt (dt_call (da_cons (dt_var rfl) (da_cons dt_int (da_cons (dt_i0 (dt_var rfl) dt_int) da_nil))) ⟨r.b, 0, n - 1, rfl, bt (by omega) bn⟩))) ?_
  refine ds_ret (dt_andV_t (b := true) ?_ (dt_andV_t (b := true) (dt_call (da_cons (dt_var rfl) (da_cons dt_int (da_cons dt_int da_nil))) ⟨r.h, 1, 4, rfl, bt h1 h4⟩) (dt_call (da_cons (dt_var rfl) (da_cons dt_int (da_cons dt_int da_nil))) ⟨r.m, 0, 3, rfl, bt m0 m3⟩)))
  have q : DT K (tOp (rI0 fun i j => V.bl (decide (i < j))) (tVar 2) (tVar 3)) [some (.dat (.int n)), some (.dat (roadD r)), some (.dat (.int r.a)), some (.dat (.int r.b)), some (.dat (.int r.h)), some (.dat (.int r.m))] [] (.dat (.bl (decide (r.a < r.b)))) [] := dt_i0b (dt_var rfl) (dt_var rfl)
  rw [decide_eq_true ab] at q
  exact q
theorem ok_are_roads (T : Txt K mg) : FnOk P w K mg base CX0 4 T.a_are_roads T.fd_are_roads ["places", "roads"] (spP K 2 (isTrue fun ds => ∃ M : MapD, ds = [.int M.places, .tup (M.roads.map roadD)] ∧ M.Ok)) := by
  refine fnP T.F_are_roads sc_are_roads rfl (fun cdv A outer s H E hr => ?_)
  refine ⟨_, (pss_cons (ps_if (PW.pt (pw_or (pt_not (pt_val (pe_callB (callIsi K) (by rfl) T.n_isinstance (by decide +kernel) (pa_cons (pv 1) (pa_cons (pe_bltn (v := .ty "tuple") (by rfl) T.n_tuple (by decide +kernel) rfl) pa_nil))))) (pw_or1 (pt_not (pt_chain op_le op_le pe_int (pe_callB (callLen K) (by rfl) T.n_len PySem.boot_len (pa_cons (pv 1) pa_nil)) (pe_globI (by rfl) T.k_MOST_ROADS)))))) (pss_one (ps_ret pe_bl)) pss_nil)
  (pss_cons (ps_if (pt_not (pt_val (pe_callB (crAll K) (by rfl) T.n_all (by decide +kernel) (pa_cons (pe_lc (own := [("road", 2)]) rfl sc_are_roads.nd (piTup K (pv 1)) (blkOk_by (own := [("road", 2)]) (N := ["places", "roads", "road", "at"]) (sc := defScope s_are_roads) (by decide +kernel)) (fun _ _ _ _ _ => (pg_name (i := 2) sc_are_roads.nd rfl (.inl rfl))) (fun _ _ _ _ _ => pts_nil) (fun _ _ _ _ _ => (pe_call (ok_is_road T) (hr.mono (by decide)) (by rfl) T.g_is_road T.F_is_road.kp T.b_is_road .nil pass0 (pa_cons (pv 0) (pa_cons (pv 2) pa_nil))))) pa_nil)))) (pss_one (ps_ret pe_bl)) pss_nil)
  (pss_one (ps_ret (pe_callB (crAll K) (by rfl) T.n_all (by decide +kernel) (pa_cons (pe_lc (own := [("at", 3)]) rfl sc_are_roads.nd (pi_range1 (by rfl) T.n_range (pa_cons (pe_op op_sub (pe_callB (callLen K) (by rfl) T.n_len PySem.boot_len (pa_cons (pv 1) pa_nil)) pe_int) pa_nil)) (blkOk_by (own := [("at", 3)]) (N := ["places", "roads", "road", "at"]) (sc := defScope s_are_roads) (by decide +kernel)) (fun _ _ _ _ _ => (pg_name (i := 3) sc_are_roads.nd rfl (.inl rfl))) (fun _ _ _ _ _ => pts_nil) (fun _ _ _ _ _ => (pe_cmpR (opLtT K hr.units0) (pe_ix (ixT K) (pv 1) (pv 3) (fun _ _ => rfl)) (pe_ix (ixT K) (pv 1) (pe_op op_add (pv 3) pe_int) (fun _ _ => rfl)) (nomark _)))) pa_nil)))))), ?_⟩
  rintro ds d ⟨⟨M, rfl, h⟩, rfl⟩ -
  have r1 := h.r1
  have r7 := h.r7
  have e : (M.roads.map roadD).length = M.roads.length := List.length_map _
  refine .rt (ds_guard (m1 := []) (db_or_f (m1 := []) (db_nt (dt_isi (dt_var rfl) rfl (by decide +kernel))) ?_) ?_)
  · have q : DB K (tNot (tTest (tChain (rI0 fun i j => V.bl (decide (i ≤ j))) (rI0 fun i j => V.bl (decide (i ≤ j))) (tC (.int 1)) (tCB _ (tCons (tVar 1) tNil)) (tC (.int 7))))) [some (.dat (.int M.places)), some (.dat (.tup (M.roads.map roadD))), none, none] [] (!(decide ((1 : Int) ≤ ((M.roads.map roadD).length : Int)) && decide (((M.roads.map roadD).length : Int) ≤ 7))) [] :=
      db_not (db_test (dt_chain dt_int (dt_lenT (dt_var rfl)) dt_int))
    rw [decide_eq_true (show (1 : Int) ≤ ((M.roads.map roadD).length : Int) by omega), decide_eq_true (show ((M.roads.map roadD).length : Int) ≤ 7 by omega)] at q
    exact q
  refine ds_guard (db_nt (dt_allT (di_tup (dt_var rfl)) (by omega) fun i hi => ?_)) ?_
  · rw [e] at hi
    refine ⟨_, _, dg_name, by decide, ?_⟩
    rw [nth_map roadD hi ⟨0, 0, 0, 0⟩]
    refine dt_call (da_cons (dt_var rfl) (da_cons (dt_var rfl) da_nil)) ⟨⟨M.places, _, rfl, h.rd _ ?_⟩, rfl⟩
    rw [List.getD_eq_getElem?_getD, List.getElem?_eq_getElem hi]
    exact List.getElem_mem hi
  · refine ds_ret (dt_allT (di_rng1 (da_cons (dt_i0 (dt_lenT (dt_var rfl)) dt_int) da_nil) (by omega) (by omega)) (by omega) fun i hi => ?_)
    refine ⟨_, _, dg_name, by decide, ?_⟩
    have hi2 : i + 1 < M.roads.length := by omega
    have q : DT K (tOp (rLtT K) (tOp (rIxT K) (tVar 1) (tVar 3)) (tOp (rIxT K) (tVar 1) (tOp (rI0 fun i j => V.int (i + j)) (tVar 3) (tC (.int 1))))) [some (.dat (.int M.places)), some (.dat (.tup (M.roads.map roadD))), none, some (.dat (.int (0 + (i : Nat))))] [] (.dat (.bl (HT.lexLt (M.road i).row (M.road (i + 1)).row))) [] := by
      refine dt_ltT (dt_ixT (dt_var rfl) (dt_var rfl) ?_) (dt_ixT (dt_var rfl) (dt_i0 (dt_var rfl) dt_int) ?_)
      · rw [Int.zero_add]
        exact road_at (by omega)
      · have e2 : (0 : Int) + (i : Nat) + 1 = ((i + 1 : Nat) : Int) := by omega
        rw [e2]
        exact road_at hi2
    rw [h.asc i hi2] at q
    exact q
theorem ok_are_prices (T : Txt K mg) : FnOk P w K mg base CX0 3 T.a_are_prices T.fd_are_prices ["places", "prices"] (spP K 2 (isTrue fun ds => ∃ M : MapD, ds = [.int M.places, .tup (M.prices.map optD)] ∧ M.Ok)) := by
  refine fnP T.F_are_prices sc_are_prices rfl (fun cdv A outer s H E hr => ?_)
  refine ⟨_, (pss_cons (ps_if (pt_not (pt_val (pe_call (ok_is_group T) (hr.mono (by decide)) (by rfl) T.g_is_group T.F_is_group.kp T.b_is_group .nil pass0 (pa_cons (pv 1) (pa_cons (pv 0) pa_nil))))) (pss_one (ps_ret pe_bl)) pss_nil)
  (pss_one (ps_ret (pe_callB (crAll K) (by rfl) T.n_all (by decide +kernel) (pa_cons (pe_lc (own := [("price", 2)]) rfl sc_are_prices.nd (piTup K (pv 1)) (blkOk_by (own := [("price", 2)]) (N := ["places", "prices", "price"]) (sc := defScope s_are_prices) (by decide +kernel)) (fun _ _ _ _ _ => (pg_name (i := 2) sc_are_prices.nd rfl (.inl rfl))) (fun _ _ _ _ _ => pts_nil) (fun _ _ _ _ _ => (pe_or (pe_cmp (pc_isN (pv 2)) rfl) (pe_one (pe_call (ok_is_between T) (hr.mono (by decide)) (by rfl) T.g_is_between T.F_is_between.kp T.b_is_between .nil pass0 (pa_cons (pv 2) (pa_cons pe_int (pa_cons (pe_globI (by rfl) T.k_MOST_PRICE) pa_nil)))))))) pa_nil))))), ?_⟩
  rintro ds d ⟨⟨M, rfl, h⟩, rfl⟩ -
  have p5 := h.p5
  have pl := h.pl
  have e : (M.prices.map optD).length = M.prices.length := List.length_map _
  refine .rt (ds_guard (db_nt (dt_call (da_cons (dt_var rfl) (da_cons (dt_var rfl) da_nil)) ⟨_, _, rfl, gt (by rw [e]; exact pl)⟩)) ?_)
  refine ds_ret (dt_allT (di_tup (dt_var rfl)) (by omega) fun i hi => ⟨_, _, dg_name, by decide, ?_⟩)
  rw [e] at hi
  rw [nth_map optD hi none]
  have hm : M.prices.getD i none ∈ M.prices := by
    rw [List.getD_eq_getElem?_getD, List.getElem?_eq_getElem hi]
    exact List.getElem_mem hi
  cases q : M.prices.getD i none with
  | none => exact dt_orV_t (dt_isN (d := .non) (dt_var rfl))
  | some x =>
    obtain ⟨h1, h2⟩ := h.pr _ hm x q
    exact dt_orV_f (dt_isN (d := .int x) (dt_var rfl)) (dt_call (da_cons (dt_var rfl) (da_cons dt_int (da_cons dt_int da_nil))) ⟨x, 1, 9, rfl, bt h1 h2⟩)
theorem ok_is_box (T : Txt K mg) : FnOk P w K mg base CX0 3 T.a_is_box T.fd_is_box ["box"] (spP K 1 (isTrue fun ds => ∃ M : MapD, ds = [.tup [.int M.room, .int M.bear]] ∧ M.Ok)) := by
  refine fnP T.F_is_box sc_is_box rfl (fun cdv A outer s H E hr => ?_)
  refine ⟨_, (pss_one (ps_ret (pe_and (pe_call (ok_is_group T) (hr.mono (by decide)) (by rfl) T.g_is_group T.F_is_group.kp T.b_is_group .nil pass0 (pa_cons (pv 0) (pa_cons pe_int pa_nil))) (pe_and (pe_call (ok_is_between T) (hr.mono (by decide)) (by rfl) T.g_is_between T.F_is_between.kp T.b_is_between .nil pass0 (pa_cons (pe_ix (ixT K) (pv 0) pe_int (fun _ _ => rfl)) (pa_cons pe_int (pa_cons (pe_globI (by rfl) T.k_MOST_ROOM) pa_nil)))) (pe_one (pe_call (ok_is_between T) (hr.mono (by decide)) (by rfl) T.g_is_between T.F_is_between.kp T.b_is_between .nil pass0 (pa_cons (pe_ix (ixT K) (pv 0) pe_int (fun _ _ => rfl)) (pa_cons pe_int (pa_cons (pe_globI (by rfl) T.k_MOST_BEAR) pa_nil))))))))), ?_⟩
  rintro ds d ⟨⟨M, rfl, h⟩, rfl⟩ -
  have m1 := h.m1
  have m6 := h.m6
  have b0 := h.b0
  have b2 := h.b2
  exact .rt (ds_ret (dt_andV_t (b := true) (dt_call (da_cons (dt_var rfl) (da_cons dt_int da_nil)) ⟨_, _, rfl, rfl⟩)
    (dt_andV_t (b := true) (dt_call (da_cons (dt_ixT (dt_var rfl) dt_int rfl) (da_cons dt_int (da_cons dt_int da_nil))) ⟨M.room, 1, 6, rfl, bt m1 m6⟩) (dt_call (da_cons (dt_ixT (dt_var rfl) dt_int rfl) (da_cons dt_int (da_cons dt_int da_nil))) ⟨M.bear, 0, 2, rfl, bt b0 b2⟩))))
/-! ### Map(..) -/
def R_init (C : Addr) (m : Mc) (ds : List D) (d : D) (m' : Mc) : Prop := ∃ M : MapD, M.Ok ∧ m = .obj C [] ∧ ds = [.int M.places, .tup (M.roads.map roadD), .tup (M.prices.map optD), .tup [.int M.room, .int M.bear]] ∧ d = .non ∧ m' = .obj C (mapFs M)
theorem ok_Map___init__ (T : Txt K mg) : FnOk P w K mg base CX0 5 T.a_Map___init__ T.fd_Map___init__ ["self", "places", "roads", "prices", "box"] (spO K 5 (R_init T.C_Map)) := by
  refine fnO T.F_Map___init__ sc_Map___init__ rfl (fun cdv A outer s H E hr => ?_)
  refine ⟨_, (pss_cons (ps_if (pt_not (pt_val (pe_call (ok_is_between T) (hr.mono (by decide)) (by rfl) T.g_is_between T.F_is_between.kp T.b_is_between .nil pass0 (pa_cons (pv 1) (pa_cons pe_int (pa_cons (pe_globI (by rfl) T.k_MOST_PLACES) pa_nil)))))) (pss_one ps_never) pss_nil)
  (pss_cons (ps_if (pt_not (pt_val (pe_call (ok_are_roads T) (hr.mono (by decide)) (by rfl) T.g_are_roads T.F_are_roads.kp T.b_are_roads .nil pass0 (pa_cons (pv 1) (pa_cons (pv 2) pa_nil))))) (pss_one ps_never) pss_nil)
  (pss_cons (ps_if (pt_not (pt_val (pe_call (ok_are_prices T) (hr.mono (by decide)) (by rfl) T.g_are_prices T.F_are_prices.kp T.b_are_prices .nil pass0 (pa_cons (pv 1) (pa_cons (pv 3) pa_nil))))) (pss_one ps_never) pss_nil)
  (pss_cons (ps_if (pt_not (pt_val (pe_call (ok_is_box T) (hr.mono (by decide)) (by rfl) T.g_is_box T.F_is_box.kp T.b_is_box .nil pass0 (pa_cons (pv 4) pa_nil)))) (pss_one ps_never) pss_nil)
  (pss_cons (ps_fld (pv 0) (pv 1) rfl)
  (pss_cons (ps_fld (pv 0) (pv 2) rfl)
  (pss_cons (ps_fld (pv 0) (pv 3) rfl)
  (pss_one (ps_fld (pv 0) (pv 4) rfl))))))))), ?_⟩
  rintro m ds d m' ⟨M, h, rfl, rfl, rfl, rfl⟩ -
  have p2 := h.p2
  have p5 := h.p5
  refine .nx (s := [some (.own 0), some (.dat (.int M.places)), some (.dat (.tup (M.roads.map roadD))), some (.dat (.tup (M.prices.map optD))), some (.dat (.tup [.int M.room, .int M.bear]))]) ?_
  refine ds_guard (db_nt (dt_call (da_cons (dt_var rfl) (da_cons dt_int (da_cons dt_int da_nil))) ⟨M.places, 2, 5, rfl, bt p2 p5⟩)) ?_
  refine ds_guard (db_nt (dt_call (da_cons (dt_var rfl) (da_cons (dt_var rfl) da_nil)) ⟨⟨M, rfl, h⟩, rfl⟩)) ?_
  refine ds_guard (db_nt (dt_call (da_cons (dt_var rfl) (da_cons (dt_var rfl) da_nil)) ⟨⟨M, rfl, h⟩, rfl⟩)) ?_
  refine ds_guard (db_nt (dt_call (da_cons (dt_var rfl) da_nil) ⟨⟨M, rfl, h⟩, rfl⟩)) ?_
  refine ds_seq (ds_fld (n := 0) (dt_var rfl) (dt_var rfl) rfl T.cl T.na_Map__places (Nat.le_of_ble_eq_true rfl)) ?_
  refine ds_seq (ds_fld (n := 0) (dt_var rfl) (dt_var rfl) rfl T.cl T.na_Map__roads (Nat.le_of_ble_eq_true rfl)) ?_
  refine ds_seq (ds_fld (n := 0) (dt_var rfl) (dt_var rfl) rfl T.cl T.na_Map__prices (Nat.le_of_ble_eq_true rfl)) ?_
  exact ds_fld (n := 0) (m2 := [.obj T.C_Map [("_places", .int M.places), ("_roads", .tup (M.roads.map roadD)), ("_prices", .tup (M.prices.map optD))]]) (dt_var rfl) (dt_var rfl) rfl T.cl T.na_Map__box (Nat.le_of_ble_eq_true rfl)
/-! ### states, moves -/
def R_is_state (C : Addr) : List D → Prop := fun ds => ∃ M s, ds = [mapD C M, stD s] ∧ s.Ok M
theorem ok_is_state (T : Txt K mg) : FnOk P w K mg base CX0 3 T.a_is_state T.fd_is_state ["chart", "state"] (spP K 2 (isTrue (R_is_state T.C_Map))) := by
  refine fnP T.F_is_state sc_is_state rfl (fun cdv A outer s H E hr => ?_)
  refine ⟨_, (pss_cons (ps_if (pt_not (pt_val (pe_call (ok_is_group T) (hr.mono (by decide)) (by rfl) T.g_is_group T.F_is_group.kp T.b_is_group .nil pass0 (pa_cons (pv 1) (pa_cons pe_int pa_nil))))) (pss_one (ps_ret pe_bl)) pss_nil)
  (pss_cons (ps_asg (pe_prop (pv 0) T.cl T.PO_box (get_box (k := 0) T) (hr.mono (by decide)) T.b_Map_box .nil pass0 rfl) (pgTup K 2 (pgs_cons (pg_name (i := 2) sc_is_state.nd rfl (.inl rfl)) (pgs_cons (pg_name (i := 3) sc_is_state.nd rfl (.inl rfl)) pgs_nil))))
  (pss_cons (ps_set (i := 4) sc_is_state.nd rfl (.inl rfl) (pe_tup (pa_cons (pe_op op_sub (pe_prop (pv 0) T.cl T.PO_places (get_places (k := 0) T) (hr.mono (by decide)) T.b_Map_places .nil pass0 rfl) pe_int) (pa_cons (pv 2) (pa_cons (pv 3) (pa_cons (pe_globI (by rfl) T.k_MOST_LATE) pa_nil))))))
  (pss_one (ps_ret (pe_callB (crAll K) (by rfl) T.n_all (by decide +kernel) (pa_cons (pe_lc (own := [("part", 5), ("top", 6)]) rfl sc_is_state.nd (RZ.pi_zipA (by rfl) T.n_zip (pa_cons (pv 1) (pa_cons (pv 4) pa_nil))) (blkOk_by (own := [("part", 5), ("top", 6)]) (N := ["chart", "state", "room", "bear", "tops", "part", "top"]) (sc := defScope s_is_state) (by decide +kernel)) (fun _ _ _ _ _ => (pgTup K 2 (pgs_cons (pg_name (i := 5) sc_is_state.nd rfl (.inl rfl)) (pgs_cons (pg_name (i := 6) sc_is_state.nd rfl (.inl rfl)) pgs_nil)))) (fun _ _ _ _ _ => pts_nil) (fun _ _ _ _ _ => (pe_call (ok_is_between T) (hr.mono (by decide)) (by rfl) T.g_is_between T.F_is_between.kp T.b_is_between .nil pass0 (pa_cons (pv 5) (pa_cons pe_int (pa_cons (pv 6) pa_nil)))))) pa_nil))))))), ?_⟩
  rintro ds d ⟨⟨M, s, rfl, h⟩, rfl⟩ -
  refine .rt (ds_guard (db_nt (dt_call (da_cons (dt_var rfl) (da_cons dt_int da_nil)) ⟨_, _, rfl, rfl⟩)) ?_)
  refine ds_seq (ds_asg (dt_prop (dt_var rfl) rfl) (dg_tup (dgs_cons dg_name (dgs_cons dg_name dgs_nil)) rfl)) ?_
  refine ds_seq (ds_set (dt_tup (da_cons (dt_i0 (dt_prop (dt_var rfl) rfl) dt_int) (da_cons (dt_var rfl) (da_cons (dt_var rfl) (da_cons dt_int da_nil)))))) ?_
  refine ds_ret (dt_allT (di_zipT (da_cons (dt_var rfl) (da_cons (dt_var rfl) da_nil)) rfl) (by exact Nat.le_of_ble_eq_true rfl) fun i hi => ⟨_, _, dg_tup (dgs_cons dg_name (dgs_cons dg_name dgs_nil)) rfl, by decide, ?_⟩)
  have hi4 : i < 4 := hi
  match i, hi4 with
  | 0, _ => exact dt_call (da_cons (dt_var rfl) (da_cons dt_int (da_cons (dt_var rfl) da_nil))) ⟨s.p, 0, M.places - 1, rfl, bt h.p0 h.p1⟩
  | 1, _ => exact dt_call (da_cons (dt_var rfl) (da_cons dt_int (da_cons (dt_var rfl) da_nil))) ⟨s.i, 0, M.room, rfl, bt h.i0 h.i1⟩
  | 2, _ => exact dt_call (da_cons (dt_var rfl) (da_cons dt_int (da_cons (dt_var rfl) da_nil))) ⟨s.w, 0, M.bear, rfl, bt h.w0 h.w1⟩
  | 3, _ => exact dt_call (da_cons (dt_var rfl) (da_cons dt_int (da_cons (dt_var rfl) da_nil))) ⟨s.l, 0, 4, rfl, bt h.l0 h.l1⟩
theorem flatAll_of {n : Nat} : ∀ {ds : List D}, (∀ d ∈ ds, D.flat n d = true) → D.flatAll n ds = true
  | [], _ => by simp [D.flatAll]
  | d :: ds, h => by
    rw [D.flatAll, Bool.and_eq_true]
    exact ⟨h d List.mem_cons_self, flatAll_of fun x hx => h x (List.mem_cons_of_mem _ hx)⟩
theorem moves_mem {M : MapD} {s : StD} {d : D} (h : d ∈ M.moves s) : ∃ p r, d = mvD p r ∧ r ∈ M.lead s.p := by
  unfold MapD.moves at h
  obtain ⟨i, _, h2⟩ := List.mem_flatMap.mp h
  obtain ⟨r, h3, h4⟩ := List.mem_map.mp h2
  exact ⟨i, r, h4.symm, h3⟩
theorem flat_mv (p r : Nat) (n : Nat) : D.flat (n + 1) (mvD p r) = true := by
  cases n <;> simp [mvD, D.flat, D.flatAll]
theorem flat_moves (M : MapD) (s : StD) : D.flat 3 (.lst (M.moves s)) = true := by
  rw [D.flat]
  exact flatAll_of fun d hd => by
    obtain ⟨p, r, rfl, _⟩ := moves_mem hd
    exact flat_mv p r 1
def R_is_move (C : Addr) : List D → Prop := fun ds => ∃ M s p r, ds = [mapD C M, stD s, mvD p r] ∧ InR M s ∧ mvD p r ∈ M.moves s
theorem ok_is_move (T : Txt K mg) : FnOk P w K mg base CX0 6 T.a_is_move T.fd_is_move ["chart", "state", "move"] (spP K 3 (isTrue (R_is_move T.C_Map))) := by
  refine fnP T.F_is_move sc_is_move rfl (fun cdv A outer s H E hr => ?_)
  refine ⟨_, (pss_cons (ps_if (PW.pt (pw_or (pt_not (pt_val (pe_call (ok_is_group T) (hr.mono (by decide)) (by rfl) T.g_is_group T.F_is_group.kp T.b_is_group .nil pass0 (pa_cons (pv 2) (pa_cons pe_int pa_nil))))) (pw_or (pt_not (pt_val (pe_call (ok_is_whole T) (hr.mono (by decide)) (by rfl) T.g_is_whole T.F_is_whole.kp T.b_is_whole .nil pass0 (pa_cons (pe_ix (ixT K) (pv 2) pe_int (fun _ _ => rfl)) pa_nil)))) (pw_or1 (pt_not (pt_val (pe_call (ok_is_whole T) (hr.mono (by decide)) (by rfl) T.g_is_whole T.F_is_whole.kp T.b_is_whole .nil pass0 (pa_cons (pe_ix (ixT K) (pv 2) pe_int (fun _ _ => rfl)) pa_nil)))))))) (pss_one (ps_ret pe_bl)) pss_nil)
  (pss_one (ps_ret (pe_cmpR (opInD K (DL.room_in hr)) (pv 2) (pe_call (ok_possible_moves T) (hr.mono (by decide)) (by rfl) T.g_possible_moves T.F_possible_moves.kp T.b_possible_moves .nil pass0 (pa_cons (pv 0) (pa_cons (pv 1) pa_nil))) (by rfl))))), ?_⟩
  rintro ds d ⟨⟨M, s, p, r, rfl, h, hm⟩, rfl⟩ -
  refine .rt (ds_guard (db_or_f (db_nt (dt_call (da_cons (dt_var rfl) (da_cons dt_int da_nil)) ⟨_, _, rfl, rfl⟩)) (db_or_f (db_nt (dt_call (da_cons (dt_ixT (dt_var rfl) dt_int rfl) da_nil) ⟨_, _, rfl, rfl, rfl⟩)) (db_nt (dt_call (da_cons (dt_ixT (dt_var rfl) dt_int rfl) da_nil) ⟨_, _, rfl, rfl, rfl⟩)))) ?_)
  exact ds_ret (dt_inD_mem (n := 3) (dt_var rfl) (dt_call (da_cons (dt_var rfl) (da_cons (dt_var rfl) da_nil)) ⟨M, s, rfl, h, rfl⟩) (flat_mv p r 2) (flat_moves M s) hm)
/-! ### checks -/
def isNone (Q : List D → Prop) (ds : List D) (d : D) : Prop := Q ds ∧ d = .non
theorem ok_check_map (T : Txt K mg) : FnOk P w K mg base CX0 1 T.a_check_map T.fd_check_map ["chart"] (spP K 1 (isNone fun ds => ∃ M, ds = [mapD T.C_Map M])) := by
  refine fnP T.F_check_map sc_check_map rfl (fun cdv A outer s H E hr => ?_)
  refine ⟨_, (pss_one (ps_if (pt_not (pt_val (pe_callB (callIsi K) (by rfl) T.n_isinstance (by decide +kernel) (pa_cons (pv 0) (pa_cons (pe_glob (v := .ref T.C_Map) (by rfl) T.g_Map rfl) pa_nil))))) (pss_one ps_never) pss_nil)), ?_⟩
  rintro ds d ⟨⟨M, rfl⟩, rfl⟩ -
  exact .nx (ds_if_f (db_nt (dt_isiC (dt_var rfl) T.T_Map)) ds_next)
theorem ok_check_state (T : Txt K mg) : FnOk P w K mg base CX0 4 T.a_check_state T.fd_check_state ["chart", "state"] (spP K 2 (isNone (R_is_state T.C_Map))) := by
  refine fnP T.F_check_state sc_check_state rfl (fun cdv A outer s H E hr => ?_)
  refine ⟨_, (pss_one (ps_if (pt_not (pt_val (pe_call (ok_is_state T) (hr.mono (by decide)) (by rfl) T.g_is_state T.F_is_state.kp T.b_is_state .nil pass0 (pa_cons (pv 0) (pa_cons (pv 1) pa_nil))))) (pss_one ps_never) pss_nil)), ?_⟩
  rintro ds d ⟨⟨M, s, rfl, h⟩, rfl⟩ -
  exact .nx (ds_if_f (db_nt (dt_call (da_cons (dt_var rfl) (da_cons (dt_var rfl) da_nil)) ⟨⟨M, s, rfl, h⟩, rfl⟩)) ds_next)
theorem ok_check_move (T : Txt K mg) : FnOk P w K mg base CX0 7 T.a_check_move T.fd_check_move ["chart", "state", "move"] (spP K 3 (isNone (R_is_move T.C_Map))) := by
  refine fnP T.F_check_move sc_check_move rfl (fun cdv A outer s H E hr => ?_)
  refine ⟨_, (pss_one (ps_if (pt_not (pt_val (pe_call (ok_is_move T) (hr.mono (by decide)) (by rfl) T.g_is_move T.F_is_move.kp T.b_is_move .nil pass0 (pa_cons (pv 0) (pa_cons (pv 1) (pa_cons (pv 2) pa_nil)))))) (pss_one ps_never) pss_nil)), ?_⟩
  rintro ds d ⟨⟨M, s, p, r, rfl, h, hm⟩, rfl⟩ -
  exact .nx (ds_if_f (db_nt (dt_call (da_cons (dt_var rfl) (da_cons (dt_var rfl) (da_cons (dt_var rfl) da_nil))) ⟨⟨M, s, p, r, rfl, h, hm⟩, rfl⟩)) ds_next)
end
end K33
end
section
set_option Elab.async false
set_option linter.all false
set_option maxRecDepth 100000
set_option maxHeartbeats 4000000
namespace K33
open PySem PySem.Spec PyProof.Rows L2 DL
/-! ### heights: what the program asks of them -/
def StD.row (s : StD) : List Int := [s.p, s.i, s.w, s.l]
def stO : Option StD → D
  | none => .non
  | some s => stD s
def endS (M : MapD) (r : Road) (l : Int) (x : Int × Int) (more : Nat) : Option StD := if x.2 ≤ M.bear then some ⟨r.b, x.1, x.2, l - more⟩ else none
def MapD.endsS (M : MapD) (s : StD) (pieces : Nat) (road : Nat) : List (Option StD) :=
  (List.range (s.l + 1).toNat).map fun more => endS M (M.road road) s.l (hours (M.road road).m (s.i + pieces, s.w) ((M.road road).h.toNat + more)) more
theorem ends_eq (M : MapD) (s : StD) (p r : Nat) : M.ends s p r = (M.endsS s p r).map stO := by
  unfold MapD.ends MapD.endsS
  rw [List.map_map]
  refine List.map_congr_left fun more _ => ?_
  unfold endD endS
  show _ = stO (if _ then _ else _)
  split <;> rfl
/-- the moves as pairs -/
def MapD.mv (M : MapD) (s : StD) : List (Nat × Nat) := (List.range (M.most s + 1).toNat).flatMap fun i => (M.lead s.p).map fun r => (i, r)
theorem moves_eq (M : MapD) (s : StD) : M.moves s = (M.mv s).map fun m => mvD m.1 m.2 := by
  unfold MapD.moves MapD.mv
  rw [List.map_flatMap]
  refine congrArg (fun f => List.flatMap f _) (funext fun i => ?_)
  rw [List.map_map]
  rfl
def MapD.feeAt (M : MapD) (p : Int) (pieces : Nat) : Int := match M.price p with
  | none => 0
  | some x => pieces * x
def MapD.fee (M : MapD) (s : StD) (pieces : Nat) : Int := M.feeAt s.p pieces
def MapD.done (M : MapD) (s : StD) : Bool := decide (s.p = M.places - 1)
def within (hs : List (List Int × Int)) (most : Int) (e : Option StD) : Bool := match e with
  | none => false
  | some s => match lookI hs s.row with
    | none => false
    | some h => decide (h ≤ most)
def heightOk (M : MapD) (hs : List (List Int × Int)) (s : StD) : Bool :=
  let h := (lookI hs s.row).getD 0
  !decide (h < 0) && (M.done s || (M.mv s).any fun m => (M.endsS s m.1 m.2).all (within hs (h - M.fee s m.1)))
theorem getD_toD (ls : List (List Int × Int)) (r : List Int) : (getI (toD ls) r).getD (.int 0) = .int ((lookI ls r).getD 0) := by
  rw [getI_toD]
  cases lookI ls r <;> rfl
section
variable {P : Program} {w : World} {K : PySem.W.Frag} {mg : Str → Option Value} {base : Heap} {k : Nat}
def R_is_done (C : Addr) (ds : List D) (d : D) : Prop := ∃ M s, ds = [mapD C M, stD s] ∧ d = .bl (M.done s)
theorem ok_is_done (T : Txt K mg) : FnOk P w K mg base CX0 3 T.a_is_done T.fd_is_done ["chart", "state"] (spP K 2 (R_is_done T.C_Map)) := by
  refine fnP T.F_is_done sc_is_done rfl (fun cdv A outer s H E hr => ?_)
  refine ⟨_, (pss_one (ps_ret (pe_cmpR op_eq (pe_ix (ixT K) (pv 1) pe_int (fun _ _ => rfl)) (pe_op op_sub (pe_prop (pv 0) T.cl T.PO_places (get_places (k := 0) T) (hr.mono (by decide)) T.b_Map_places .nil pass0 rfl) pe_int) (nomark _)))), ?_⟩
  rintro ds d ⟨M, s, rfl, rfl⟩ -
  exact .rt (ds_ret (dt_eqI (dt_ixT (dt_var rfl) dt_int rfl) (dt_i0 (dt_prop (dt_var rfl) rfl) dt_int)))
structure FeeOk (M : MapD) (s : StD) (p : Nat) : Prop where
  p0 : 0 ≤ s.p
  pn : s.p < M.prices.length
  p6 : p ≤ 6
  pr : ∀ x, M.price s.p = some x → 1 ≤ x ∧ x ≤ 9
def R_pieces_cost (C : Addr) (ds : List D) (d : D) : Prop := ∃ (M : MapD) (p : Int) (n : Nat), ds = [mapD C M, .int p, .int (n : Nat)] ∧ 0 ≤ p ∧ p < M.prices.length ∧ n ≤ 6 ∧ (∀ x, M.price p = some x → 1 ≤ x ∧ x ≤ 9) ∧ d = .int (M.feeAt p n)
theorem ok_pieces_cost (T : Txt K mg) : FnOk P w K mg base CX0 3 T.a_pieces_cost T.fd_pieces_cost ["chart", "place", "pieces"] (spP K 3 (R_pieces_cost T.C_Map)) := by
  refine fnP T.F_pieces_cost sc_pieces_cost rfl (fun cdv A outer s H E hr => ?_)
  refine ⟨_, (pss_cons (ps_set (i := 3) sc_pieces_cost.nd rfl (.inl rfl) (pe_ix (ixT K) (pe_prop (pv 0) T.cl T.PO_prices (get_prices (k := 0) T) (hr.mono (by decide)) T.b_Map_prices .nil pass0 rfl) (pv 1) (fun _ _ => rfl)))
  (pss_one (ps_ret (pe_ifExp (pt_cmp (pc_isN (pv 3))) pe_int (pe_op op_mul (pv 2) (pv 3)))))), ?_⟩
  rintro ds d ⟨M, p, n, rfl, p0, pn, n6, pr, rfl⟩ -
  refine .rt (ds_seq (ds_set (dt_ixT (dt_prop (dt_var rfl) rfl) (dt_var rfl) (price_at p0 pn))) (ds_ret ?_))
  unfold MapD.feeAt
  cases q : M.price p with
  | none => exact dt_if (b := true) (db_b (dt_isN (d := .non) (dt_var rfl))) dt_int
  | some x =>
    obtain ⟨x1, x9⟩ := pr x q
    refine dt_if (b := false) (db_b (dt_isN (d := .int x) (dt_var rfl))) ?_
    exact dt_ic (C := CMul) (g := fun a b => a * b) (i := ((n : Nat) : Int)) (j := x) (dt_var rfl) (dt_var rfl) (Or.inr ⟨by omega, by omega⟩)
def R_move_cost (C : Addr) (ds : List D) (d : D) : Prop := ∃ M s p r, ds = [mapD C M, stD s, mvD p r] ∧ FeeOk M s p ∧ d = .int (M.fee s p)
theorem ok_move_cost (T : Txt K mg) : FnOk P w K mg base CX0 4 T.a_move_cost T.fd_move_cost ["chart", "state", "move"] (spP K 3 (R_move_cost T.C_Map)) := by
  refine fnP T.F_move_cost sc_move_cost rfl (fun cdv A outer s H E hr => ?_)
  refine ⟨_, (pss_one (ps_ret (pe_call (ok_pieces_cost T) (hr.mono (by decide)) (by rfl) T.g_pieces_cost T.F_pieces_cost.kp T.b_pieces_cost .nil pass0 (pa_cons (pv 0) (pa_cons (pe_ix (ixT K) (pv 1) pe_int (fun _ _ => rfl)) (pa_cons (pe_ix (ixT K) (pv 2) pe_int (fun _ _ => rfl)) pa_nil)))))), ?_⟩
  rintro ds d ⟨M, s, p, r, rfl, h, rfl⟩ -
  exact .rt (ds_ret (dt_call (da_cons (dt_var rfl) (da_cons (dt_ixT (dt_var rfl) dt_int rfl) (da_cons (dt_ixT (dt_var rfl) dt_int rfl) da_nil))) ⟨M, s.p, p, rfl, h.p0, h.pn, h.p6, h.pr, rfl⟩))
def reached (ls : List (List Int × Int)) (s : StD) (n : Int) : Bool := decide (n ≤ 0) || decide ((lookI ls s.row).getD 0 ≥ n)
def R_is_within (ds : List D) (d : D) : Prop := ∃ (hs : List (List Int × Int)) (s : StD) (most : Int), ds = [.dic (toD hs), stD s, .int most] ∧ d = .bl (within hs most (some s))
def R_is_reached (ds : List D) (d : D) : Prop := ∃ (ls : List (List Int × Int)) (s : StD) (n : Int), ds = [.dic (toD ls), stD s, .int n] ∧ d = .bl (reached ls s n)
def R_are_within (ds : List D) (d : D) : Prop := ∃ (hs : List (List Int × Int)) (es : List (Option StD)) (most : Int), ds = [.dic (toD hs), .lst (es.map stO), .int most] ∧ es.length ≤ 5 ∧ (∀ p ∈ hs, p.1 ∈ rows4) ∧ d = .bl (es.all (within hs most))
end
end K33
end
section
set_option Elab.async false
set_option linter.all false
set_option maxRecDepth 100000
set_option maxHeartbeats 4000000
namespace K33
open PySem PySem.Spec PyProof.Rows L2 DL
theorem mv_in {M : MapD} {s : StD} {m : Nat × Nat} (h : m ∈ M.mv s) : (m.1 : Int) ≤ M.most s ∧ m.2 ∈ M.lead s.p := by
  obtain ⟨i, hi, hm⟩ := List.mem_flatMap.mp h
  obtain ⟨r, hr, rfl⟩ := List.mem_map.mp hm
  exact ⟨by have := List.mem_range.mp hi; show (i : Int) ≤ _; omega, hr⟩
theorem inR {M : MapD} {s : StD} (hM : M.Ok) (hs : s.Ok M) : InR M s := ⟨hM.r7, hs.p0, by have := hM.pl; have := hs.p1; omega, hs.i0, hs.i1, hM.m6⟩
theorem price_ok {M : MapD} {s : StD} (hM : M.Ok) (hs : s.Ok M) : ∀ x, M.price s.p = some x → 1 ≤ x ∧ x ≤ 9 := fun x e => by
  have lt : s.p.toNat < M.prices.length := by have := hM.pl; have := hs.p1; have := hs.p0; omega
  unfold MapD.price at e
  rw [List.getD_eq_getElem?_getD, List.getElem?_eq_getElem lt] at e
  exact hM.pr _ (List.getElem_mem lt) x e
theorem feeOk {M : MapD} {s : StD} (hM : M.Ok) (hs : s.Ok M) {m : Nat × Nat} (h : m ∈ M.mv s) : FeeOk M s m.1 :=
  ⟨hs.p0, (inR hM hs).pn, by have := (mv_in h).1; have := (most_bd (inR hM hs)).2; omega, price_ok hM hs⟩
theorem inM {M : MapD} {s : StD} (hM : M.Ok) (hs : s.Ok M) {m : Nat × Nat} (h : m ∈ M.mv s) : InM M s m.2 := by
  have lt := lead_lt (mv_in h).2
  have mem : M.road m.2 ∈ M.roads := by
    unfold MapD.road
    rw [List.getD_eq_getElem?_getD, List.getElem?_eq_getElem lt]
    exact List.getElem_mem lt
  have ok := hM.rd _ mem
  exact ⟨lt, by have := ok.h1; omega, ok.h4, hs.l0, hs.l1⟩
theorem ends_len {M : MapD} {s : StD} (hs : s.Ok M) (p r : Nat) : (M.endsS s p r).length ≤ 5 := by
  unfold MapD.endsS
  rw [List.length_map, List.length_range]
  have := hs.l1
  omega
theorem any_range {α : Type} (p : α → Bool) (z : α) : ∀ l : List α, (List.range l.length).any (fun i => p (l.getD i z)) = l.any p := fun l => by
  rw [Bool.eq_iff_iff, List.any_eq_true, List.any_eq_true]
  constructor
  · rintro ⟨i, hi, h⟩
    have lt := List.mem_range.mp hi
    rw [List.getD_eq_getElem?_getD, List.getElem?_eq_getElem lt] at h
    exact ⟨_, List.getElem_mem lt, h⟩
  · rintro ⟨x, hx, h⟩
    obtain ⟨i, lt, rfl⟩ := List.mem_iff_getElem.mp hx
    exact ⟨i, List.mem_range.mpr lt, by rw [List.getD_eq_getElem?_getD, List.getElem?_eq_getElem lt]; exact h⟩
section
variable {P : Program} {w : World} {K : PySem.W.Frag} {mg : Str → Option Value} {base : Heap} {k : Nat}
def R_height (C : Addr) (ds : List D) (d : D) : Prop := ∃ (M : MapD) (hs : List (List Int × Int)) (s : StD) (h : Int), ds = [mapD C M, .dic (toD hs), stD s] ∧ M.Ok ∧ s.Ok M ∧ lookI hs s.row = some h ∧ (∀ p ∈ hs, p.1 ∈ rows4) ∧ d = .bl (heightOk M hs s)
end
end K33
end
section
set_option Elab.async false
set_option linter.all false
set_option maxRecDepth 100000
set_option maxHeartbeats 4000000
namespace K33
open PySem PySem.Spec PyProof.Rows L2 DL
def ofRow : List Int → StD
  | [p, i, w, l] => ⟨p, i, w, l⟩
  | _ => ⟨0, 0, 0, 0⟩
/-- all keys are states of the map -/
def Keyed (M : MapD) (hs : List (List Int × Int)) : Prop := ∀ p ∈ hs, (ofRow p.1).Ok M ∧ p.1 = (ofRow p.1).row
theorem row_in {M : MapD} {s : StD} (hM : M.Ok) (h : s.Ok M) : s.row ∈ rows4 := by
  unfold rows4
  refine List.mem_flatMap.mpr ⟨s.p.toNat, List.mem_range.mpr (by have := h.p1; have := hM.p5; omega), List.mem_flatMap.mpr ⟨s.i.toNat, List.mem_range.mpr (by have := h.i1; have := hM.m6; omega), List.mem_flatMap.mpr ⟨s.w.toNat, List.mem_range.mpr (by have := h.w1; have := hM.b2; omega),
    List.mem_map.mpr ⟨s.l.toNat, List.mem_range.mpr (by have := h.l1; omega), ?_⟩⟩⟩⟩
  show _ = [s.p, s.i, s.w, s.l]
  rw [Int.toNat_of_nonneg h.p0, Int.toNat_of_nonneg h.i0, Int.toNat_of_nonneg h.w0, Int.toNat_of_nonneg h.l0]
theorem keyed_in {M : MapD} {hs : List (List Int × Int)} (hM : M.Ok) (h : Keyed M hs) : ∀ p ∈ hs, p.1 ∈ rows4 := fun p hp => by
  rw [(h p hp).2]
  exact row_in hM (h p hp).1
theorem look_mem : ∀ {hs : List (List Int × Int)} {p : List Int × Int}, p ∈ hs → ∃ v, lookI hs p.1 = some v
  | q :: hs, p, h => by
    unfold lookI
    by_cases e : q.1 = p.1
    · exact ⟨_, if_pos e⟩
    · rw [if_neg e]
      exact look_mem ((List.mem_cons.mp h).resolve_left fun z => e (by rw [z]))
/-- what is said of each key, by place -/
theorem keys_all (hs : List (List Int × Int)) (g : List Int → Bool) : (List.range (toD hs).length).map (fun i => D.bl (g ((toD hs).getD i ([], .non)).1)) = (hs.map fun p => g p.1).map D.bl := by
  refine List.ext_getElem? fun i => ?_
  have e : (toD hs).length = hs.length := List.length_map _
  rw [e]
  simp only [List.getElem?_map]
  by_cases h : i < hs.length
  · rw [List.getElem?_range h, List.getElem?_eq_getElem h]
    show some (D.bl (g ((toD hs).getD i ([], .non)).1)) = some (D.bl (g hs[i].1))
    unfold toD
    rw [List.getD_eq_getElem?_getD, List.getElem?_map, List.getElem?_eq_getElem h]
    rfl
  · rw [List.getElem?_eq_none (by rw [List.length_range]; omega), List.getElem?_eq_none (by omega)]
    rfl
theorem key_nth {hs : List (List Int × Int)} {i : Nat} (h : i < (toD hs).length) : ∃ p ∈ hs, ((toD hs).getD i ([], .non)).1 = p.1 := by
  have e : (toD hs).length = hs.length := List.length_map _
  rw [e] at h
  refine ⟨hs[i], List.getElem_mem h, ?_⟩
  unfold toD
  rw [List.getD_eq_getElem?_getD, List.getElem?_map, List.getElem?_eq_getElem h]
  rfl
section
variable {P : Program} {w : World} {K : PySem.W.Frag} {mg : Str → Option Value} {base : Heap} {k : Nat}
def R_heights (C : Addr) (ds : List D) (d : D) : Prop := ∃ (M : MapD) (hs : List (List Int × Int)), ds = [mapD C M, .dic (toD hs)] ∧ M.Ok ∧ Keyed M hs ∧ hs.length ≤ 1000 ∧ d = .bl (hs.all fun p => heightOk M hs (ofRow p.1))
end
end K33
end
section
set_option Elab.async false
set_option linter.all false
set_option maxRecDepth 100000
set_option maxHeartbeats 4000000
namespace K33
open PySem PySem.Spec PyProof.Rows L2 DL
/-! ### roads in order, each once -/
def Road.code (r : Road) : Int := TS.code 64 r.row
def Road.Bd (r : Road) : Prop := TS.Bd 64 r.row
theorem code_eq (r : Road) : r.code = r.a * 262144 + r.b * 4096 + r.h * 64 + r.m := by
  show r.a * 64 ^ 3 + (r.b * 64 ^ 2 + (r.h * 64 ^ 1 + (r.m * 64 ^ 0 + 0))) = _
  have h3 : (64 : Int) ^ 3 = 262144 := by decide
  have h2 : (64 : Int) ^ 2 = 4096 := by decide
  have h1 : (64 : Int) ^ 1 = 64 := by decide
  have h0 : (64 : Int) ^ 0 = 1 := by decide
  rw [h3, h2, h1, h0]
  omega
theorem bd_all {r : Road} (h : r.Bd) : (0 ≤ r.a ∧ r.a < 64) ∧ (0 ≤ r.b ∧ r.b < 64) ∧ (0 ≤ r.h ∧ r.h < 64) ∧ (0 ≤ r.m ∧ r.m < 64) :=
  ⟨h r.a (by simp [Road.row]), h r.b (by simp [Road.row]), h r.h (by simp [Road.row]), h r.m (by simp [Road.row])⟩
theorem bd_of {r : Road} (h : (0 ≤ r.a ∧ r.a < 64) ∧ (0 ≤ r.b ∧ r.b < 64) ∧ (0 ≤ r.h ∧ r.h < 64) ∧ (0 ≤ r.m ∧ r.m < 64)) : r.Bd := fun m hm => by
  obtain ⟨h1, h2, h3, h4⟩ := h
  simp only [Road.row, List.mem_cons, List.not_mem_nil, or_false] at hm
  rcases hm with rfl | rfl | rfl | rfl
  · exact h1
  · exact h2
  · exact h3
  · exact h4
theorem code_inj {r s : Road} (hr : r.Bd) (hs : s.Bd) (e : r.code = s.code) : r = s := by
  obtain ⟨⟨a1, a2⟩, ⟨b1, b2⟩, ⟨c1, c2⟩, ⟨d1, d2⟩⟩ := bd_all hr
  obtain ⟨⟨a1', a2'⟩, ⟨b1', b2'⟩, ⟨c1', c2'⟩, ⟨d1', d2'⟩⟩ := bd_all hs
  rw [code_eq, code_eq] at e
  cases r
  cases s
  simp only [Road.mk.injEq] at *
  omega
theorem code_lex {r s : Road} (hr : r.Bd) (hs : s.Bd) (e : r.code < s.code) : HT.lexLt r.row s.row = true := by
  obtain ⟨⟨a1, a2⟩, ⟨b1, b2⟩, ⟨c1, c2⟩, ⟨d1, d2⟩⟩ := bd_all hr
  obtain ⟨⟨a1', a2'⟩, ⟨b1', b2'⟩, ⟨c1', c2'⟩, ⟨d1', d2'⟩⟩ := bd_all hs
  rw [code_eq, code_eq] at e
  simp only [Road.row, HT.lexLt]
  split
  · split
    · split
      · split
        · omega
        · exact decide_eq_true (by omega)
      · exact decide_eq_true (by omega)
    · exact decide_eq_true (by omega)
  · exact decide_eq_true (by omega)
def insR (x : Road) : List Road → List Road
  | [] => [x]
  | y :: l => if x.code < y.code then x :: y :: l else if x.code = y.code then y :: l else y :: insR x l
def sortRoads : List Road → List Road
  | [] => []
  | x :: l => insR x (sortRoads l)
theorem insR_mem {x : Road} (hx : x.Bd) : ∀ {l : List Road}, (∀ y ∈ l, y.Bd) → ∀ z, z ∈ insR x l ↔ z = x ∨ z ∈ l
  | [], _, z => by simp [insR]
  | y :: l, h, z => by
    unfold insR
    split
    · simp
    · split
      · rename_i e
        have exy : x = y := code_inj hx (h y List.mem_cons_self) e
        subst exy
        simp
      · have ih := insR_mem hx (l := l) (fun w hw => h w (List.mem_cons_of_mem _ hw)) z
        simp only [List.mem_cons, ih]
        constructor
        · rintro (h | h | h)
          · exact .inr (.inl h)
          · exact .inl h
          · exact .inr (.inr h)
        · rintro (h | h | h)
          · exact .inr (.inl h)
          · exact .inl h
          · exact .inr (.inr h)
theorem insR_ord {x : Road} (hx : x.Bd) : ∀ {l : List Road}, (∀ y ∈ l, y.Bd) → l.Pairwise (fun a b => a.code < b.code) → (insR x l).Pairwise (fun a b => a.code < b.code)
  | [], _, _ => List.Pairwise.cons (fun _ h => by cases h) .nil
  | y :: l, h, p => by
    have p' := List.pairwise_cons.mp p
    unfold insR
    split
    · rename_i e
      refine List.Pairwise.cons (fun z hz => ?_) p
      rcases List.mem_cons.mp hz with rfl | hz
      · exact e
      · have := p'.1 z hz
        omega
    · split
      · exact p
      · rename_i e1 e2
        refine List.Pairwise.cons (fun z hz => ?_) (insR_ord hx (fun w hw => h w (List.mem_cons_of_mem _ hw)) p'.2)
        rcases (insR_mem hx (fun w hw => h w (List.mem_cons_of_mem _ hw)) z).mp hz with rfl | hz
        · omega
        · exact p'.1 z hz
theorem sort_mem : ∀ {l : List Road}, (∀ y ∈ l, y.Bd) → ∀ z, z ∈ sortRoads l ↔ z ∈ l
  | [], _, z => by simp [sortRoads]
  | x :: l, h, z => by
    have hl : ∀ y ∈ l, y.Bd := fun y hy => h y (List.mem_cons_of_mem _ hy)
    unfold sortRoads
    rw [insR_mem (h x List.mem_cons_self) (fun y hy => hl y ((sort_mem hl y).mp hy)), sort_mem hl, List.mem_cons]
theorem sort_ord : ∀ {l : List Road}, (∀ y ∈ l, y.Bd) → (sortRoads l).Pairwise (fun a b => a.code < b.code)
  | [], _ => .nil
  | x :: l, h => by
    have hl : ∀ y ∈ l, y.Bd := fun y hy => h y (List.mem_cons_of_mem _ hy)
    exact insR_ord (h x List.mem_cons_self) (fun y hy => hl y ((sort_mem hl y).mp hy)) (sort_ord hl)
theorem strict_unique {α : Type} (f : α → Int) : ∀ (l l' : List α), l.Pairwise (fun a b => f a < f b) → l'.Pairwise (fun a b => f a < f b) → (∀ x, x ∈ l ↔ x ∈ l') → l = l'
  | [], [], _, _, _ => rfl
  | [], y :: l', _, _, h => by have := (h y).mpr List.mem_cons_self; cases this
  | x :: l, [], _, _, h => by have := (h x).mp List.mem_cons_self; cases this
  | x :: l, y :: l', p, p', h => by
    obtain ⟨p1, p2⟩ := List.pairwise_cons.mp p
    obtain ⟨q1, q2⟩ := List.pairwise_cons.mp p'
    have exy : x = y := by
      rcases List.mem_cons.mp ((h x).mp List.mem_cons_self) with e | e
      · exact e
      · rcases List.mem_cons.mp ((h y).mpr List.mem_cons_self) with e' | e'
        · exact e'.symm
        · have a := q1 x e
          have b := p1 y e'
          omega
    subst exy
    rw [strict_unique f l l' p2 q2 fun z => ⟨fun hz => ?_, fun hz => ?_⟩]
    · rcases List.mem_cons.mp ((h z).mp (List.mem_cons_of_mem _ hz)) with e | e
      · subst e
        have := p1 z hz
        omega
      · exact e
    · rcases List.mem_cons.mp ((h z).mpr (List.mem_cons_of_mem _ hz)) with e | e
      · subst e
        have := q1 z hz
        omega
      · exact e
theorem row_inj {r s : Road} (e : r.row = s.row) : r = s := by
  cases r
  cases s
  simp only [Road.row, List.cons.injEq, and_true] at e
  obtain ⟨rfl, rfl, rfl, rfl⟩ := e
  rfl
/-- what sorted(set(..)) gives is sortRoads -/
theorem sort_uniq {l : List Road} (h : ∀ y ∈ l, y.Bd) (out : List (List Int)) (S : SortSet 64 (l.map Road.row) out) : out = (sortRoads l).map Road.row := by
  have inj : ∀ a ∈ out, ∀ b ∈ out, TS.code 64 a = TS.code 64 b → a = b := fun a ha b hb e => by
    obtain ⟨r, hr, rfl⟩ := List.mem_map.mp ((S.mem a).mp ha)
    obtain ⟨s, hs, rfl⟩ := List.mem_map.mp ((S.mem b).mp hb)
    rw [code_inj (h r hr) (h s hs) e]
  refine strict_unique (TS.code 64) _ _ ?_ (by rw [List.pairwise_map]; exact sort_ord h) fun x => ?_
  · have both := List.Pairwise.and S.ord S.nd
    refine List.Pairwise.imp_of_mem (fun {a b} ha hb q => ?_) both
    have ne : TS.code 64 a ≠ TS.code 64 b := fun e => q.2 (inj a ha b hb e)
    have le := q.1
    omega
  · rw [S.mem]
    constructor
    · intro hx
      obtain ⟨r, hr, rfl⟩ := List.mem_map.mp hx
      exact List.mem_map_of_mem ((sort_mem h r).mpr hr)
    · intro hx
      obtain ⟨r, hr, rfl⟩ := List.mem_map.mp hx
      exact List.mem_map_of_mem ((sort_mem h r).mp hr)
end K33
end
section
set_option Elab.async false
set_option linter.all false
set_option maxRecDepth 100000
set_option maxHeartbeats 4000000
namespace K33
open PySem PySem.Spec PyProof.Rows L2 DL
/-! ### the law's draws, the second family -/
def primes : List Int := [1000003, 1000033, 1000037, 1000039, 1000081, 1000099, 1000117, 1000121, 1000133, 1000151, 1000159, 1000171, 1000183, 1000187, 1000193, 1000199]
def drawV (c k b : Int) : Int := (c * 48271 + k * 69621) % primes.getD (k % 16).toNat 0 % b
def absI (i : Int) : Int := if i < 0 then -i else i
def cellN (ns : List Int) (k : Int) : Int := if k < ns.length then absI (ns.getD k.toNat 0) else drawV (absI ns.sum + 7919 * k) k 999983
def mixN (c b t : Int) : Int := (drawV ((c + 977 * t) * (c + 31 * t + 5)) (t % 9 + 1) 999983 * 1000003 + drawV ((c + 31 * t) * (c + 7) + 977 * t) (t % 7 + 2) 1000003) % b
/-- what remains, and the numbers so far -/
def digS (c b : Int) : Nat → Int × List Int
  | 0 => (c - 10 ^ 18, [])
  | i + 1 => if 0 < (digS c b i).1 then ((digS c b i).1 / b, (digS c b i).2 ++ [(digS c b i).1 % b]) else ((digS c b i).1, (digS c b i).2 ++ [mixN c b (0 + (i : Nat))])
theorem digS_len (c b : Int) : ∀ i, (digS c b i).2.length = i
  | 0 => rfl
  | i + 1 => by
    have h := digS_len c b i
    unfold digS
    split
    · show ((digS c b i).2 ++ [_]).length = _
      rw [List.length_append, h]; rfl
    · show ((digS c b i).2 ++ [_]).length = _
      rw [List.length_append, h]; rfl
def digits (ns : List Int) (at_ b : Int) (n : Nat) : List Int := (digS (cellN ns at_) b n).2
theorem prime_pos : ∀ i : Nat, i < 16 → 0 < primes.getD i 0 := by decide
theorem drawV_bd {c k b : Int} (h : 0 < b) : 0 ≤ drawV c k b ∧ drawV c k b < b := ⟨Int.emod_nonneg _ (by omega), Int.emod_lt_of_pos _ h⟩
/-- a script's numbers are no longer than this -/
def Bits (ns : List Int) : Prop := ∀ n ∈ ns, Builtin.Int.intBits n ≤ 1048576
theorem cell_bits {ns : List Int} (hb : Bits ns) {k : Int} (h0 : 0 ≤ k) : Builtin.Int.intBits (cellN ns k) ≤ 1048576 := by
  unfold cellN
  by_cases h : k < ns.length
  · rw [if_pos h]
    have hm : ns.getD k.toNat 0 ∈ ns := by
      rw [List.getD_eq_getElem?_getD, List.getElem?_eq_getElem (by omega)]
      exact List.getElem_mem _
    refine intBits_le_of_natAbs ?_ (hb _ hm)
    unfold absI
    split <;> omega
  · rw [if_neg h]
    obtain ⟨d0, d1⟩ := drawV_bd (c := absI ns.sum + 7919 * k) (k := k) (b := 999983) (by decide)
    refine intBits_le_of_natAbs (y := 999983) ?_ (Nat.le_trans (intBits_le_64 (by decide) (by decide)) (by decide))
    show _ ≤ 999983
    omega
theorem mul_fine {c x y : Int} (hc : Builtin.Int.intBits c ≤ 1048576) (hx : -1000000 ≤ x) (hx2 : x ≤ 1000000) (hy : -1000000 ≤ y) (hy2 : y ≤ 1000000) : IntMulOk (c + x) (c + y) := by
  have b : ∀ z : Int, -1000000 ≤ z → z ≤ 1000000 → Builtin.Int.intBits (c + z) ≤ 1048577 := fun z h1 h2 =>
    Nat.le_trans (intBits_add_le hc (intBits_le_64 (by omega) (by omega))) (by decide)
  exact IntMulOk.of_le (b x hx hx2) (b y hy hy2) (by decide)
section
variable {P : Program} {w : World} {K : PySem.W.Frag} {mg : Str → Option Value} {base : Heap} {k : Nat}
theorem ok__law_draw (T : Txt K mg) : FnOk P w K mg base CX0 1 T.a__law_draw T.fd__law_draw ["_law_cell", "_law_k", "_law_many"] (spP K 3 fun ds d => ∃ c k b : Int, ds = [.int c, .int k, .int b] ∧ 0 < b ∧ d = .int (drawV c k b)) := by
  refine fnP T.F__law_draw sc__law_draw rfl (fun cdv A outer s H E hr => ?_)
  refine ⟨_, (pss_cons (ps_set (i := 3) sc__law_draw.nd rfl (.inl rfl) (pe_tup (pa_cons pe_int (pa_cons pe_int (pa_cons pe_int (pa_cons pe_int (pa_cons pe_int (pa_cons pe_int (pa_cons pe_int (pa_cons pe_int (pa_cons pe_int (pa_cons pe_int (pa_cons pe_int (pa_cons pe_int (pa_cons pe_int (pa_cons pe_int (pa_cons pe_int (pa_cons pe_int pa_nil))))))))))))))))))
  (pss_one (ps_ret (pe_op op_mod (pe_op op_mod (pe_callTy call_int1 (by rfl) T.n_int (by decide +kernel) (pa_cons (pe_op op_add (pe_op op_mul (pv 0) pe_int) (pe_op op_mul (pv 1) pe_int)) pa_nil)) (pe_ix (ixT K) (pv 3) (pe_op op_mod (pv 1) pe_int) (fun _ _ => rfl))) (pv 2))))), ?_⟩
  rintro ds d ⟨c, k, b, rfl, hb, rfl⟩ -
  have k0 : 0 ≤ k % 16 := Int.emod_nonneg _ (by omega)
  have k1 : k % 16 < 16 := Int.emod_lt_of_pos _ (by omega)
  refine .rt (ds_seq (ds_set (dt_tup (ds := primes.map .int) (da_cons dt_int (da_cons dt_int (da_cons dt_int (da_cons dt_int (da_cons dt_int (da_cons dt_int (da_cons dt_int (da_cons dt_int (da_cons dt_int (da_cons dt_int (da_cons dt_int (da_cons dt_int (da_cons dt_int (da_cons dt_int (da_cons dt_int (da_cons dt_int da_nil)))))))))))))))))) ?_)
  refine ds_ret (dt_ic (dt_ic (dt_int1 (dt_i0 (dt_ic (dt_var rfl) dt_int (.inr ⟨by decide, by decide⟩)) (dt_ic (dt_var rfl) dt_int (.inr ⟨by decide, by decide⟩)))) (dt_ixT (dt_var rfl) (dt_ic (dt_var rfl) dt_int (show (0 : Int) < 16 by decide)) (atI_map D.int k0 (show k % 16 < (primes.length : Int) from k1) 0)) (prime_pos _ (by omega))) (dt_var rfl) hb)
theorem ok__law_cell_at (T : Txt K mg) : FnOk P w K mg base CX0 2 T.a__law_cell_at T.fd__law_cell_at ["_law_script", "_law_k"] (spP K 2 fun ds d => ∃ (ns : List Int) (k : Int), ds = [.lst (ns.map .int), .int k] ∧ 0 ≤ k ∧ k ≤ 1000 ∧ d = .int (cellN ns k)) := by
  refine fnP T.F__law_cell_at sc__law_cell_at rfl (fun cdv A outer s H E hr => ?_)
  refine ⟨_, (pss_cons (ps_if (pt_cmpR op_lt (pv 1) (pe_callB (callLen K) (by rfl) T.n_len PySem.boot_len (pa_cons (pv 0) pa_nil)) (nomark _)) (pss_one (ps_ret (pe_callB callAbs (by rfl) T.n_abs (by decide +kernel) (pa_cons (pe_ix (ixL K) (pv 0) (pv 1) (fun _ _ => rfl)) pa_nil)))) pss_nil)
  (pss_one (ps_ret (pe_call (ok__law_draw T) (hr.mono (by decide)) (by rfl) T.g__law_draw T.F__law_draw.kp T.b__law_draw .nil pass0 (pa_cons (pe_op op_add (pe_callB callAbs (by rfl) T.n_abs (by decide +kernel) (pa_cons (pe_callB (callSum K rfl) (by rfl) T.n_sum (by decide +kernel) (pa_cons (pv 0) pa_nil)) pa_nil)) (pe_op op_mul pe_int (pv 1))) (pa_cons (pv 1) (pa_cons pe_int pa_nil))))))), ?_⟩
  rintro ds d ⟨ns, k, rfl, h0, h1, rfl⟩ -
  have hl : ((ns.map D.int).length : Int) = ns.length := by rw [List.length_map]
  refine .rt ?_
  unfold cellN
  by_cases h : k < ns.length
  · rw [if_pos h]
    refine ds_stop (ds_if (b := decide (k < ((ns.map D.int).length : Int))) (db_test (dt_i0b (dt_var rfl) (dt_lenL (dt_var rfl)))) ?_)
    rw [if_pos (decide_eq_true (by omega))]
    exact ds_ret (dt_abs (dt_ixL (dt_var rfl) (dt_var rfl) (atI_map D.int h0 h 0)))
  · rw [if_neg h]
    refine ds_seq (ss1 := [some (.dat (.lst (ns.map .int))), some (.dat (.int k))]) (m1 := []) (ds_if (b := decide (k < ((ns.map D.int).length : Int))) (db_test (dt_i0b (dt_var rfl) (dt_lenL (dt_var rfl)))) ?_) ?_
    · rw [if_neg (by rw [hl]; simpa using h)]
      exact ds_next
    · exact ds_ret (dt_call (da_cons (dt_i0 (dt_abs (dt_sumL (dt_var rfl))) (dt_ic dt_int (dt_var rfl) (.inl ⟨by decide, by decide⟩))) (da_cons (dt_var rfl) (da_cons dt_int da_nil))) ⟨_, k, 999983, rfl, by decide, rfl⟩)
def R_digits (ds : List D) (m : Mc) : Prop := ∃ (ns : List Int) (at_ b : Int) (n : Nat), ds = [.lst (ns.map .int), .int at_, .int (n : Nat), .int b] ∧ Bits ns ∧ 0 ≤ at_ ∧ at_ ≤ 1000 ∧ n ≤ 1000 ∧ 0 < b ∧ b < 1073741824 ∧ m = .lst ((digits ns at_ b n).map .int)
theorem ok__law_digits (T : Txt K mg) : FnOk P w K mg base CX0 3 T.a__law_digits T.fd__law_digits ["_law_script", "_law_at", "_law_many", "_law_base"] (spN K 4 R_digits) := by
  refine fnN T.F__law_digits sc__law_digits rfl (fun cdv A outer s H E hr => ?_)
  refine ⟨_, (pss_cons (ps_par (i := 4) (j := 5) (by rfl) sc__law_digits.nd rfl rfl (by decide) rfl rfl (pa_cons (pe_call (ok__law_cell_at T) (hr.mono (by decide)) (by rfl) T.g__law_cell_at T.F__law_cell_at.kp T.b__law_cell_at .nil pass0 (pa_cons (pv 0) (pa_cons (pv 1) pa_nil))) (pa_cons (pe_lst pa_nil) pa_nil)) (by rfl))
  (pss_cons (ps_set (i := 6) sc__law_digits.nd rfl (.inl rfl) (pe_op op_sub (pv 4) (pe_op op_pow pe_int pe_int)))
  (pss_cons (ps_for PassesOwn.never rfl (pi_range1 (by rfl) T.n_range (pa_cons (pv 2) pa_nil)) (pg_name (i := 7) sc__law_digits.nd rfl (.inl rfl)) (pss_one (ps_if (pt_cmpR op_gt (pv 6) pe_int (nomark _)) (pss_cons (ps_expr (pe_bm PySem.F.plainAttrs_list PySem.F.slot_list_append PySem.F.type_list_append mt_append (pv 5) (pa_cons (pe_op op_mod (pe_callTy call_int1 (by rfl) T.n_int (by decide +kernel) (pa_cons (pv 6) pa_nil)) (pv 3)) pa_nil)))
  (pss_one (ps_set (i := 6) sc__law_digits.nd rfl (.inl rfl) (pe_op op_fdivW (pv 6) (pv 3))))) (pss_cons (ps_set (i := 8) sc__law_digits.nd rfl (.inl rfl) (pe_call (ok__law_draw T) (hr.mono (by decide)) (by rfl) T.g__law_draw T.F__law_draw.kp T.b__law_draw .nil pass0 (pa_cons (pe_op op_mulB (pe_op op_add (pv 4) (pe_op op_mulB pe_int (pv 7))) (pe_op op_add (pe_op op_add (pv 4) (pe_op op_mulB pe_int (pv 7))) pe_int)) (pa_cons (pe_op op_add (pe_op op_mod (pv 7) pe_int) pe_int) (pa_cons pe_int pa_nil)))))
  (pss_cons (ps_set (i := 9) sc__law_digits.nd rfl (.inl rfl) (pe_call (ok__law_draw T) (hr.mono (by decide)) (by rfl) T.g__law_draw T.F__law_draw.kp T.b__law_draw .nil pass0 (pa_cons (pe_op op_add (pe_op op_mulB (pe_op op_add (pv 4) (pe_op op_mulB pe_int (pv 7))) (pe_op op_add (pv 4) pe_int)) (pe_op op_mulB pe_int (pv 7))) (pa_cons (pe_op op_add (pe_op op_mod (pv 7) pe_int) pe_int) (pa_cons pe_int pa_nil)))))
  (pss_one (ps_expr (pe_bm PySem.F.plainAttrs_list PySem.F.slot_list_append PySem.F.type_list_append mt_append (pv 5) (pa_cons (pe_op op_mod (pe_callTy call_int1 (by rfl) T.n_int (by decide +kernel) (pa_cons (pe_op op_add (pe_op op_mulB (pv 8) pe_int) (pv 9)) pa_nil)) (pv 3)) pa_nil)))))))))
  (pss_one (ps_ret (pv 5)))))), ?_⟩
  rintro ds m ⟨ns, at_, b, n, rfl, hB, a0, a1, hn, b0, b1, rfl⟩ -
  have cb := cell_bits hB a0
  let c := cellN ns at_
  refine ⟨0, [.lst ((digits ns at_ b n).map .int)], ?_, rfl⟩
  let f : Nat → Sl := fun i => [some (.dat (.lst (ns.map .int))), some (.dat (.int at_)), some (.dat (.int (n : Nat))), some (.dat (.int b)), some (.dat (.int c)), some (.own 0), some (.dat (.int (digS c b i).1)), none, none, none]
  refine ds_seq (ds_parV (dav_cons (dt_call (da_cons (dt_var rfl) (da_cons (dt_var rfl) da_nil)) ⟨ns, at_, rfl, a0, a1, rfl⟩) (dav_cons (dt_lstO da_nil) dav_nil))) ?_
  refine ds_seq (ss1 := f 0) (m1 := [.lst ((digS c b 0).2.map .int)]) (ds_set (i := 6) (dt_i0 (dt_var rfl) (dt_ic dt_int dt_int ⟨by decide, by decide, by decide⟩))) ?_
  refine ds_seq (ss1 := f n) (m1 := [.lst ((digS c b n).2.map .int)]) ?_ (ds_ret (dt_var (i := 5) rfl))
  refine ds_forW [7, 8, 9] f (fun i => [.lst ((digS c b i).2.map .int)]) rfl (di_rng1 (j := ((n : Nat) : Int)) (da_cons (dt_var (i := 2) rfl) da_nil) (by omega) (by omega)) (fun _ => rfl) (fun _ => rfl) fun i hi => ?_
  have hi' : i < n := by omega
  have len : ((digS c b i).2.map D.int).length < 16777216 := by rw [List.length_map, digS_len]; omega
  by_cases h : 0 < (digS c b i).1
  · have e1 : digS c b (i + 1) = ((digS c b i).1 / b, (digS c b i).2 ++ [(digS c b i).1 % b]) := by
      show (if _ then _ else _) = _
      rw [if_pos h]
    refine ⟨(f (i + 1)).set 7 (some (.dat (.int (0 + (i : Nat))))), [], ?_, rfl⟩
    show DS K _ _ _ (.nx ((f (i + 1)).set 7 (some (.dat (.int (0 + (i : Nat)))))) [.lst ((digS c b (i + 1)).2.map .int)])
    show DS K _ _ _ (.nx [some (.dat (.lst (ns.map .int))), some (.dat (.int at_)), some (.dat (.int (n : Nat))), some (.dat (.int b)), some (.dat (.int c)), some (.own 0), some (.dat (.int (digS c b (i + 1)).1)), some (.dat (.int (0 + (i : Nat)))), none, none] [.lst ((digS c b (i + 1)).2.map .int)])
    rw [e1]
    generalize hq : digS c b i = q at h len
    have eq2 : f i = [some (.dat (.lst (ns.map .int))), some (.dat (.int at_)), some (.dat (.int (n : Nat))), some (.dat (.int b)), some (.dat (.int c)), some (.own 0), some (.dat (.int q.1)), none, none, none] := by rw [← hq]
    rw [eq2]
    refine ds_if_t (db_is (db_test (dt_i0b (dt_var rfl) dt_int)) (decide_eq_true h)) ?_
    have app : List.map D.int (q.2 ++ [q.1 % b]) = q.2.map D.int ++ [.int (q.1 % b)] := by rw [List.map_append]; rfl
    dsimp only
    rw [app]
    refine ds_seq (ds_drop (dt_append (n := 0) (m1 := [.lst (q.2.map D.int)]) (m2 := [.lst (q.2.map D.int)]) (dt_var rfl) (da_cons (dt_ic (dt_int1 (dt_var rfl)) (dt_var rfl) b0) da_nil) rfl rfl len)) ?_
    exact ds_set (i := 6) (dt_ic (dt_var rfl) (dt_var rfl) (wide_div (b := 30) b0 (by omega) (by decide) (by decide)))
  · have e1 : digS c b (i + 1) = ((digS c b i).1, (digS c b i).2 ++ [mixN c b (0 + (i : Nat))]) := by
      show (if _ then _ else _) = _
      rw [if_neg h]
    let t : Int := 0 + (i : Nat)
    have t0 : 0 ≤ t := by show (0 : Int) ≤ 0 + (i : Nat); omega
    have t1 : t < 1000 := by show (0 : Int) + (i : Nat) < 1000; omega
    let bl : Int := drawV ((c + 977 * t) * (c + 31 * t + 5)) (t % 9 + 1) 999983
    let mo : Int := drawV ((c + 31 * t) * (c + 7) + 977 * t) (t % 7 + 2) 1000003
    refine ⟨[some (.dat (.lst (ns.map .int))), some (.dat (.int at_)), some (.dat (.int (n : Nat))), some (.dat (.int b)), some (.dat (.int c)), some (.own 0), some (.dat (.int (digS c b (i + 1)).1)), some (.dat (.int t)), some (.dat (.int bl)), some (.dat (.int mo))], [], ?_, rfl⟩
    show DS K _ _ _ (.nx [some (.dat (.lst (ns.map .int))), some (.dat (.int at_)), some (.dat (.int (n : Nat))), some (.dat (.int b)), some (.dat (.int c)), some (.own 0), some (.dat (.int (digS c b (i + 1)).1)), some (.dat (.int t)), some (.dat (.int bl)), some (.dat (.int mo))] [.lst ((digS c b (i + 1)).2.map .int)])
    rw [e1]
    generalize hq : digS c b i = q at h len
    have eq2 : (f i).set 7 (some (.dat (.int (0 + (i : Nat))))) = [some (.dat (.lst (ns.map .int))), some (.dat (.int at_)), some (.dat (.int (n : Nat))), some (.dat (.int b)), some (.dat (.int c)), some (.own 0), some (.dat (.int q.1)), some (.dat (.int t)), none, none] := by rw [← hq]; rfl
    rw [eq2]
    have app : List.map D.int (q.2 ++ [mixN c b t]) = q.2.map D.int ++ [.int (mixN c b t)] := by rw [List.map_append]; rfl
    refine ds_if_f (db_is (db_test (dt_i0b (dt_var rfl) dt_int)) (decide_eq_false h)) ?_
    show DS K _ _ _ (.nx _ [.lst (List.map D.int (q.2 ++ [mixN c b t]))])
    rw [app]
    obtain ⟨d0, d1⟩ := drawV_bd (c := (c + 977 * t) * (c + 31 * t + 5)) (k := t % 9 + 1) (b := 999983) (by decide)
    have k9 : 0 ≤ t % 9 := Int.emod_nonneg _ (by decide)
    have ass : c + 31 * t + 5 = c + (31 * t + 5) := by omega
    have mf1 : IntMulOk (c + 977 * t) (c + 31 * t + 5) := by rw [ass]; exact mul_fine cb (by omega) (by omega) (by omega) (by omega)
    have mf2 : IntMulOk (c + 31 * t) (c + 7) := mul_fine cb (by omega) (by omega) (by omega) (by omega)
    have mk : ∀ j : Int, -(2 ^ 64) < j → j < 2 ^ 64 → ∀ i : Int, IntMulOk j i := fun j h1 h2 i => IntMulOk.of_left (intBits_le_64 h1 h2)
    refine ds_seq (ds_set (i := 8) (dt_call (da_cons (dt_ic (dt_i0 (dt_var (i := 4) rfl) (dt_ic dt_int (dt_var (i := 7) rfl) (mk _ (by decide) (by decide) _))) (dt_i0 (dt_i0 (dt_var (i := 4) rfl) (dt_ic dt_int (dt_var (i := 7) rfl) (mk _ (by decide) (by decide) _))) dt_int) mf1) (da_cons (dt_i0 (dt_ic (dt_var (i := 7) rfl) dt_int (show (0 : Int) < 9 by decide)) dt_int) (da_cons dt_int da_nil))) ⟨_, _, 999983, rfl, by decide, rfl⟩)) ?_
    refine ds_seq (ds_set (i := 9) (dt_call (da_cons (dt_i0 (dt_ic (dt_i0 (dt_var (i := 4) rfl) (dt_ic dt_int (dt_var (i := 7) rfl) (mk _ (by decide) (by decide) _))) (dt_i0 (dt_var (i := 4) rfl) dt_int) mf2) (dt_ic dt_int (dt_var (i := 7) rfl) (mk _ (by decide) (by decide) _))) (da_cons (dt_i0 (dt_ic (dt_var (i := 7) rfl) dt_int (show (0 : Int) < 7 by decide)) dt_int) (da_cons dt_int da_nil))) ⟨_, _, 1000003, rfl, by decide, rfl⟩)) ?_
    exact ds_drop (dt_append (n := 0) (m1 := [.lst (q.2.map D.int)]) (m2 := [.lst (q.2.map D.int)]) (dt_var (i := 5) rfl) (da_cons (dt_ic (dt_int1 (dt_i0 (dt_ic (dt_var (i := 8) rfl) dt_int (IntMulOk.of_right (intBits_le_64 (by decide) (by decide)))) (dt_var (i := 9) rfl))) (dt_var (i := 3) rfl) b0) da_nil) rfl rfl len)
/-! one number -/
/-- the number that is drawn when n were drawn before -/
def tk (ns : List Int) (n : Nat) (b : Int) : Int := if n < ns.length then ns.getD n 0 % b else 0
theorem tk_bd {ns : List Int} {n : Nat} {b : Int} (h : 0 < b) : 0 ≤ tk ns n b ∧ tk ns n b < b := by
  unfold tk
  split
  · exact ⟨Int.emod_nonneg _ (by omega), Int.emod_lt_of_pos _ h⟩
  · exact ⟨Int.le_refl _, h⟩
def drN (ns : List Int) (n : Nat) : Mc := .lst ((ns.drop n).map .int)
def R_take (m : Mc) (ds : List D) (d : D) (m' : Mc) : Prop := ∃ (ns : List Int) (n : Nat) (b : Int), m = drN ns n ∧ ds = [.int b] ∧ 0 < b ∧ d = .int (tk ns n b) ∧ m' = drN ns (n + 1)
theorem ok__law_take (T : Txt K mg) : FnOk P w K mg base CX0 1 T.a__law_take T.fd__law_take ["_law_draws", "_law_many"] (spO K 2 R_take) := by
  refine fnO T.F__law_take sc__law_take rfl (fun cdv A outer s H E hr => ?_)
  refine ⟨_, (pss_one (ps_ret (pe_ifExp (pt_cmpR (opNeD K hr.units) (pv 0) (pe_lst pa_nil) (nomark _)) (pe_op op_mod (pe_callTy call_int1 (by rfl) T.n_int (by decide +kernel) (pa_cons (pe_bm PySem.F.plainAttrs_list PySem.F.slot_list_pop PySem.F.type_list_pop mt_popAt (pv 0) (pa_cons pe_int pa_nil)) pa_nil)) (pv 1)) pe_int))), ?_⟩
  rintro m ds d m' ⟨ns, n, b, rfl, rfl, hb, rfl, rfl⟩ -
  refine .rt (ds_ret ?_)
  have test := dt_neOL (K := K) (ss := [some (.own 0), some (.dat (.int b))]) (mem := [drN ns n]) (n := 2) (p := 0) (ta := tVar 0) (tb := tLst tNil) (ds := (ns.drop n).map .int) (es := []) (dt_var rfl) (dt_lst da_nil) rfl (flat_lints 1 _) rfl
  rw [eqv_nil] at test
  unfold tk
  by_cases h : n < ns.length
  · rw [if_pos h]
    have e : (ns.drop n).map D.int = .int (ns.getD n 0) :: (ns.drop (n + 1)).map .int := by
      rw [List.drop_eq_getElem_cons h, List.map_cons, List.getD_eq_getElem?_getD, List.getElem?_eq_getElem h]
      rfl
    rw [e] at test
    refine dt_if_t (db_test test) ?_
    refine dt_ic (dt_int1 (dt_pop0 (p := 0) (d := .int (ns.getD n 0)) (ds := (ns.drop (n + 1)).map .int) (dt_var rfl) ?_)) (dt_var rfl) hb
    show some (drN ns n) = _
    unfold drN
    rw [e]
  · rw [if_neg h]
    have e : ns.drop n = [] := List.drop_eq_nil_of_le (by omega)
    have e2 : ns.drop (n + 1) = [] := List.drop_eq_nil_of_le (by omega)
    rw [e] at test
    refine dt_if_f (db_test test) ?_
    unfold drN
    rw [e, e2]
    exact dt_int
end
section
variable {K : PySem.W.Frag} {ss : Sl} {mem m1 : List Mc}
theorem dt_take {ns : List Int} {n : Nat} {b : Int} {o : Nat} {E : XK} {tb to : TE} (ho : DT K to ss mem (.own o) mem) (hb : DT K tb ss mem (.dat (.int b)) m1) (hm : m1[o]? = some (drN ns n)) (h0 : 0 < b) :
    DT K (tCall (spO K 2 R_take) [] E (tCons to (tCons tb tNil))) ss mem (.dat (.int (tk ns n b))) (m1.set o (drN ns (n + 1))) :=
  dt_callO (dao_cons ho (da_cons hb da_nil)) hm (fun z => by cases z) ⟨ns, n, b, rfl, rfl, h0, rfl, rfl⟩
end
end K33
end
section
set_option Elab.async false
set_option linter.all false
set_option maxRecDepth 100000
set_option maxHeartbeats 4000000
namespace K33
open PySem PySem.Spec PyProof.Rows L2 DL
/-! ### pools and nets -/
def poolN (ns bs : List Int) (n : Nat) : List Int := (List.range n).flatMap fun i => digits ns (i : Nat) (bs.getD i 0) 150
theorem poolN_succ (ns bs : List Int) (n : Nat) : poolN ns bs (n + 1) = poolN ns bs n ++ digits ns (n : Nat) (bs.getD n 0) 150 := by
  unfold poolN
  rw [List.range_succ, List.flatMap_append]
  simp
theorem poolN_len (ns bs : List Int) : ∀ n, (poolN ns bs n).length = n * 150
  | 0 => rfl
  | n + 1 => by
    rw [poolN_succ, List.length_append, poolN_len ns bs n]
    unfold digits
    rw [digS_len]
    omega
def poolM (ns bs : List Int) : Nat → List Mc
  | 0 => [.lst []]
  | n + 1 => poolM ns bs n ++ [.lst ((digits ns (n : Nat) (bs.getD n 0) 150).map .int)] ++ [.lst ((poolN ns bs (n + 1)).map .int)]
theorem poolM_len (ns bs : List Int) : ∀ n, (poolM ns bs n).length = 2 * n + 1
  | 0 => rfl
  | n + 1 => by
    show (poolM ns bs n ++ [_] ++ [_]).length = _
    rw [List.length_append, List.length_append, poolM_len ns bs n]
    simp
    omega
theorem poolM_last (ns bs : List Int) : ∀ n, (poolM ns bs n)[2 * n]? = some (.lst ((poolN ns bs n).map .int))
  | 0 => rfl
  | n + 1 => by
    show (poolM ns bs n ++ [_] ++ [_])[_]? = _
    have e : (poolM ns bs n ++ [Mc.lst ((digits ns (n : Nat) (bs.getD n 0) 150).map D.int)]).length = 2 * (n + 1) := by
      rw [List.length_append, poolM_len]
      rfl
    rw [List.getElem?_append_right (by omega), e, Nat.sub_self]
    rfl
/-- so many roads from place to place: the counter, the roads -/
def netA (ns : List Int) (c : Nat) : Nat → Nat × List Road
  | 0 => (c, [])
  | i + 1 => if 0 < tk ns (netA ns c i).1 12 then ((netA ns c i).1 + 1 + 1 + 1, (netA ns c i).2 ++ [⟨0 + (i : Nat), 0 + (i : Nat) + 1, 1 + tk ns ((netA ns c i).1 + 1) 3, tk ns ((netA ns c i).1 + 1 + 1) 3⟩]) else ((netA ns c i).1 + 1, (netA ns c i).2)
def mkNet (ns : List Int) (many : Int) (c : Nat) : Road := ⟨tk ns c (many - 1), tk ns c (many - 1) + 1 + tk ns (c + 1) (many - 1 - tk ns c (many - 1)), 1 + tk ns (c + 1 + 1) 3, tk ns (c + 1 + 1 + 1) 4⟩
def netB (ns : List Int) (many : Int) (q : Nat × List Road) : Nat → Nat × List Road
  | 0 => q
  | i + 1 => ((netB ns many q i).1 + 1 + 1 + 1 + 1, (netB ns many q i).2 ++ [mkNet ns many (netB ns many q i).1])
def netF (ns : List Int) (c : Nat) : Nat → Nat × List (Option Int)
  | 0 => (c, [])
  | i + 1 => if tk ns (netF ns c i).1 4 = 0 then ((netF ns c i).1 + 1, (netF ns c i).2 ++ [none]) else ((netF ns c i).1 + 1 + 1, (netF ns c i).2 ++ [some (1 + tk ns ((netF ns c i).1 + 1) 9)])
def netMany (ns : List Int) (n : Nat) : Int := 2 + tk ns n 4
def netQA (ns : List Int) (n : Nat) : Nat × List Road := netA ns (n + 1) (netMany ns n - 1).toNat
def netTurns (ns : List Int) (n : Nat) : Nat := (1 + tk ns (netQA ns n).1 2).toNat
def netQB (ns : List Int) (n : Nat) : Nat × List Road := netB ns (netMany ns n) ((netQA ns n).1 + 1, (netQA ns n).2) (netTurns ns n)
def netQF (ns : List Int) (n : Nat) : Nat × List (Option Int) := netF ns (netQB ns n).1 (netMany ns n).toNat
def netOf (ns : List Int) (n : Nat) : MapD :=
  { places := netMany ns n, roads := sortRoads (netQB ns n).2, prices := (netQF ns n).2, room := 1 + tk ns (netQF ns n).1 6, bear := tk ns ((netQF ns n).1 + 1) 3 }
def netEnd (ns : List Int) (n : Nat) : Nat := (netQF ns n).1 + 1 + 1
def netD (M : MapD) : D := .tup [.int M.places, .tup (M.roads.map roadD), .tup (M.prices.map optD), .tup [.int M.room, .int M.bear]]
theorem netMany_bd (ns : List Int) (n : Nat) : 2 ≤ netMany ns n ∧ netMany ns n ≤ 5 := by
  obtain ⟨h1, h2⟩ := tk_bd (ns := ns) (n := n) (show (0 : Int) < 4 by decide)
  unfold netMany
  omega
theorem netTurns_bd (ns : List Int) (n : Nat) : 1 ≤ netTurns ns n ∧ netTurns ns n ≤ 2 := by
  obtain ⟨h1, h2⟩ := tk_bd (ns := ns) (n := (netQA ns n).1) (show (0 : Int) < 2 by decide)
  unfold netTurns
  omega
theorem netA_ok {ns : List Int} {c : Nat} {many : Int} : ∀ i : Nat, (i : Int) ≤ many - 1 → (∀ r ∈ (netA ns c i).2, r.Ok many) ∧ (netA ns c i).2.length ≤ i
  | 0, _ => ⟨fun r h => (List.not_mem_nil h).elim, Nat.le_refl _⟩
  | i + 1, h => by
    obtain ⟨h1, h2⟩ := netA_ok (ns := ns) (c := c) (many := many) i (by omega)
    unfold netA
    split
    · refine ⟨fun r hr => ?_, by show ((netA ns c i).2 ++ [_]).length ≤ _; rw [List.length_append]; exact Nat.succ_le_succ h2⟩
      rcases List.mem_append.mp hr with hr | hr
      · exact h1 r hr
      · rw [List.mem_singleton.mp hr]
        obtain ⟨a0, a1⟩ := tk_bd (ns := ns) (n := (netA ns c i).1 + 1) (show (0 : Int) < 3 by decide)
        obtain ⟨b0, b1⟩ := tk_bd (ns := ns) (n := (netA ns c i).1 + 1 + 1) (show (0 : Int) < 3 by decide)
        exact ⟨by show (0 : Int) ≤ 0 + _; omega, by show (0 : Int) + _ < 0 + _ + 1; omega, by show (0 : Int) + _ + 1 ≤ many - 1; omega, by show 1 ≤ 1 + _; omega, by show 1 + _ ≤ 4; omega, b0, by show tk ns _ 3 ≤ 3; omega⟩
    · exact ⟨h1, Nat.le_succ_of_le h2⟩
theorem mkNet_ok {ns : List Int} {many : Int} {c : Nat} (h : 2 ≤ many) : (mkNet ns many c).Ok many := by
  obtain ⟨a0, a1⟩ := tk_bd (ns := ns) (n := c) (show 0 < many - 1 by omega)
  obtain ⟨b0, b1⟩ := tk_bd (ns := ns) (n := c + 1) (show 0 < many - 1 - tk ns c (many - 1) by omega)
  obtain ⟨c0, c1⟩ := tk_bd (ns := ns) (n := c + 1 + 1) (show (0 : Int) < 3 by decide)
  obtain ⟨d0, d1⟩ := tk_bd (ns := ns) (n := c + 1 + 1 + 1) (show (0 : Int) < 4 by decide)
  exact ⟨a0, by show tk ns c (many - 1) < tk ns c (many - 1) + 1 + _; omega, by show tk ns c (many - 1) + 1 + _ ≤ many - 1; omega, by show 1 ≤ 1 + _; omega, by show 1 + _ ≤ 4; omega, d0, by show tk ns _ 4 ≤ 3; omega⟩
theorem netB_ok {ns : List Int} {many : Int} {q : Nat × List Road} (h : 2 ≤ many) (hq : ∀ r ∈ q.2, r.Ok many) : ∀ i : Nat, (∀ r ∈ (netB ns many q i).2, r.Ok many) ∧ (netB ns many q i).2.length = q.2.length + i
  | 0 => ⟨hq, rfl⟩
  | i + 1 => by
    obtain ⟨h1, h2⟩ := netB_ok (ns := ns) h hq i
    refine ⟨fun r hr => ?_, by show ((netB ns many q i).2 ++ [_]).length = _; rw [List.length_append, h2]; rfl⟩
    rcases List.mem_append.mp hr with hr | hr
    · exact h1 r hr
    · rw [List.mem_singleton.mp hr]
      exact mkNet_ok h
theorem netF_ok {ns : List Int} {c : Nat} : ∀ i : Nat, (∀ p ∈ (netF ns c i).2, ∀ x, p = some x → 1 ≤ x ∧ x ≤ 9) ∧ (netF ns c i).2.length = i
  | 0 => ⟨fun r h => (List.not_mem_nil h).elim, rfl⟩
  | i + 1 => by
    obtain ⟨h1, h2⟩ := netF_ok (ns := ns) (c := c) i
    unfold netF
    split
    · refine ⟨fun p hp x e => ?_, by show ((netF ns c i).2 ++ [_]).length = _; rw [List.length_append, h2]; rfl⟩
      rcases List.mem_append.mp hp with hp | hp
      · exact h1 p hp x e
      · rw [List.mem_singleton.mp hp] at e
        cases e
    · refine ⟨fun p hp x e => ?_, by show ((netF ns c i).2 ++ [_]).length = _; rw [List.length_append, h2]; rfl⟩
      rcases List.mem_append.mp hp with hp | hp
      · exact h1 p hp x e
      · rw [List.mem_singleton.mp hp] at e
        obtain ⟨a0, a1⟩ := tk_bd (ns := ns) (n := (netF ns c i).1 + 1) (show (0 : Int) < 9 by decide)
        have e' := Option.some.inj e
        omega
theorem road_bd {n : Int} {r : Road} (h : r.Ok n) (hn : n ≤ 5) : r.Bd := by
  have a0 := h.a0
  have ab := h.ab
  have bn := h.bn
  have h1 := h.h1
  have h4 := h.h4
  have m0 := h.m0
  have m3 := h.m3
  exact bd_of ⟨⟨a0, by omega⟩, ⟨by omega, by omega⟩, ⟨by omega, by omega⟩, ⟨m0, by omega⟩⟩
/-- strictly rising lists of roads are no longer than the roads they hold -/
theorem sort_len : ∀ l : List Road, (sortRoads l).length ≤ l.length
  | [] => Nat.le_refl _
  | x :: l => by
    have h := sort_len l
    have ins : ∀ m : List Road, (insR x m).length ≤ m.length + 1 := fun m => by
      induction m with
      | nil => exact Nat.le_refl _
      | cons y m ih =>
        unfold insR
        repeat' split
        all_goals first | (simp only [List.length_cons] at *; omega) | (simp; done)
    show (insR x (sortRoads l)).length ≤ _
    have := ins (sortRoads l)
    rw [List.length_cons]
    omega
theorem netRaw_ok (ns : List Int) (n : Nat) : (∀ r ∈ (netQB ns n).2, r.Ok (netMany ns n)) ∧ 1 ≤ (netQB ns n).2.length ∧ (netQB ns n).2.length ≤ 6 := by
  obtain ⟨m2, m5⟩ := netMany_bd ns n
  obtain ⟨t1, t2⟩ := netTurns_bd ns n
  obtain ⟨a1, a2⟩ := netA_ok (ns := ns) (c := n + 1) (many := netMany ns n) (netMany ns n - 1).toNat (by omega)
  obtain ⟨b1, b2⟩ := netB_ok (ns := ns) (many := netMany ns n) (q := ((netQA ns n).1 + 1, (netQA ns n).2)) m2 a1 (netTurns ns n)
  have a2' : (netQA ns n).2.length ≤ (netMany ns n - 1).toNat := a2
  have b2' : (netQB ns n).2.length = (netQA ns n).2.length + netTurns ns n := b2
  exact ⟨b1, by omega, by omega⟩
theorem netOf_ok (ns : List Int) (n : Nat) : (netOf ns n).Ok := by
  obtain ⟨m2, m5⟩ := netMany_bd ns n
  obtain ⟨hraw, l1, l6⟩ := netRaw_ok ns n
  obtain ⟨r0, r1⟩ := tk_bd (ns := ns) (n := (netQF ns n).1) (show (0 : Int) < 6 by decide)
  obtain ⟨b0, b1⟩ := tk_bd (ns := ns) (n := (netQF ns n).1 + 1) (show (0 : Int) < 3 by decide)
  obtain ⟨f1, f2⟩ := netF_ok (ns := ns) (c := (netQB ns n).1) (netMany ns n).toNat
  have hbd : ∀ r ∈ (netQB ns n).2, r.Bd := fun r hr => road_bd (hraw r hr) m5
  have hmem : ∀ r ∈ sortRoads (netQB ns n).2, r ∈ (netQB ns n).2 := fun r hr => (sort_mem hbd r).mp hr
  have hne : 1 ≤ (sortRoads (netQB ns n).2).length := by
    obtain ⟨x, hx⟩ : ∃ x, x ∈ (netQB ns n).2 := by
      cases q : (netQB ns n).2 with
      | nil => rw [q] at l1; simp at l1
      | cons x l => exact ⟨x, List.mem_cons_self⟩
    exact List.length_pos_of_mem ((sort_mem hbd x).mpr hx)
  have hord := sort_ord hbd
  refine ⟨m2, m5, hne, Nat.le_trans (sort_len _) (Nat.le_succ_of_le l6), fun r hr => hraw r (hmem r hr), fun i hi => ?_, ?_, f1, by show 1 ≤ 1 + _; omega, by show 1 + _ ≤ 6; omega, b0, by show tk ns _ 3 ≤ 2; omega⟩
  · have hi' : i + 1 < (sortRoads (netQB ns n).2).length := hi
    have g : ∀ j (h : j < (sortRoads (netQB ns n).2).length), (netOf ns n).road j = (sortRoads (netQB ns n).2)[j] := fun j h => by
      show List.getD _ _ _ = _
      rw [List.getD_eq_getElem?_getD]
      show ((sortRoads (netQB ns n).2)[j]?).getD _ = _
      rw [List.getElem?_eq_getElem h]
      rfl
    rw [g i (by omega), g (i + 1) hi']
    exact code_lex (hbd _ (hmem _ (List.getElem_mem _))) (hbd _ (hmem _ (List.getElem_mem _))) (List.pairwise_iff_getElem.mp hord i (i + 1) (by omega) hi' (by omega))
  · show ((netQF ns n).2.length : Int) = netMany ns n
    have f2' : (netQF ns n).2.length = (netMany ns n).toNat := f2
    omega
section
variable {P : Program} {w : World} {K : PySem.W.Frag} {mg : Str → Option Value} {base : Heap} {k : Nat}
def R_pool (ds : List D) (m : Mc) : Prop := ∃ ns bs : List Int, ds = [.lst (ns.map .int), .tup (bs.map .int)] ∧ Bits ns ∧ bs.length ≤ 100 ∧ (∀ b ∈ bs, 0 < b ∧ b < 1073741824) ∧ m = .lst ((poolN ns bs bs.length).map .int)
theorem ok__law_pool (T : Txt K mg) : FnOk P w K mg base CX0 4 T.a__law_pool T.fd__law_pool ["_law_script", "_law_bases"] (spN K 2 R_pool) := by
  refine fnN T.F__law_pool sc__law_pool rfl (fun cdv A outer s H E hr => ?_)
  refine ⟨_, (pss_cons (ps_set (i := 2) sc__law_pool.nd rfl (.inl rfl) (pe_lst pa_nil))
  (pss_cons (ps_for PassesOwn.never rfl (piEnumT K (by rfl) T.n_enumerate (pa_cons (pv 1) pa_nil)) (pgTup K 2 (pgs_cons (pg_name (i := 3) sc__law_pool.nd rfl (.inl rfl)) (pgs_cons (pg_name (i := 4) sc__law_pool.nd rfl (.inl rfl)) pgs_nil))) (pss_one (ps_set (i := 2) sc__law_pool.nd rfl (.inl rfl) (pe_op op_cat (pv 2) (pe_call (ok__law_digits T) (hr.mono (by decide)) (by rfl) T.g__law_digits T.F__law_digits.kp T.b__law_digits .nil pass0 (pa_cons (pv 0) (pa_cons (pv 3) (pa_cons pe_int (pa_cons (pv 4) pa_nil)))))))))
  (pss_one (ps_ret (pv 2))))), ?_⟩
  rintro ds m ⟨ns, bs, rfl, hB, few, hb, rfl⟩ -
  let pa : Nat → Option Vl := fun | 0 => none | i + 1 => some (.dat (.int (i : Nat)))
  let pb : Nat → Option Vl := fun | 0 => none | i + 1 => some (.dat (.int (bs.getD i 0)))
  let f : Nat → Sl := fun i => [some (.dat (.lst (ns.map .int))), some (.dat (.tup (bs.map .int))), some (.own (2 * i)), pa i, pb i]
  have el : (bs.map D.int).length = bs.length := List.length_map _
  refine ⟨2 * bs.length, poolM ns bs bs.length, ?_, poolM_last ns bs _⟩
  refine ds_seq (ss1 := f 0) (m1 := poolM ns bs 0) (ds_set (dt_lstO da_nil)) ?_
  refine ds_seq (ss1 := f bs.length) (m1 := poolM ns bs bs.length) ?_ (ds_ret (dt_var (i := 2) rfl))
  rw [← el]
  refine ds_for_all (di_enumT (dt_var (i := 1) rfl)) f (fun i => poolM ns bs i) rfl rfl fun i hi => ?_
  rw [el] at hi
  rw [nth_map D.int hi 0]
  refine ⟨_, _, dg_tup (dgs_cons dg_name (dgs_cons dg_name dgs_nil)) rfl, ?_⟩
  let b := bs.getD i 0
  have hbm : b ∈ bs := by
    show bs.getD i 0 ∈ bs
    rw [List.getD_eq_getElem?_getD, List.getElem?_eq_getElem hi]
    exact List.getElem_mem _
  obtain ⟨b0, b1⟩ := hb b hbm
  let g : Sl := [some (.dat (.lst (ns.map .int))), some (.dat (.tup (bs.map .int))), some (.own (2 * i)), some (.dat (.int (i : Nat))), some (.dat (.int b))]
  show DS K _ g (poolM ns bs i) (.nx (f (i + 1)) (poolM ns bs (i + 1)))
  let dg : Mc := .lst ((digits ns (i : Nat) b 150).map .int)
  have call : DT K (tCall (spN K 4 R_digits) [] E0 (tCons (tVar 0) (tCons (tVar 3) (tCons (tC (.int 150)) (tCons (tVar 4) tNil))))) g (poolM ns bs i) (.own (poolM ns bs i).length) (poolM ns bs i ++ [dg]) :=
    dt_callN (da_cons (dt_var (i := 0) rfl) (da_cons (dt_var (i := 3) rfl) (da_cons dt_int (da_cons (dt_var (i := 4) rfl) da_nil)))) ⟨ns, (i : Nat), b, 150, rfl, hB, by omega, by omega, by decide, b0, b1, rfl⟩
  have l1 : ((poolN ns bs i).map D.int).length = i * 150 := by rw [List.length_map, poolN_len]
  have l2 : ((digits ns (i : Nat) b 150).map D.int).length = 150 := by
    rw [List.length_map]
    unfold digits
    rw [digS_len]
  have cat := dt_cat (K := K) (ta := tVar 2) (dt_var (i := 2) rfl) call (h1 := by rw [List.getElem?_append_left (by rw [poolM_len]; omega)]; exact poolM_last ns bs i) (h2 := by rw [List.getElem?_append_right (Nat.le_refl _), Nat.sub_self]; rfl) (hl := by rw [l1, l2]; omega)
  have en : (poolM ns bs i ++ [dg]).length = 2 * (i + 1) := by
    rw [List.length_append, poolM_len]
    rfl
  rw [en] at cat
  have app : (poolN ns bs i).map D.int ++ (digits ns (i : Nat) b 150).map D.int = (poolN ns bs (i + 1)).map D.int := by rw [poolN_succ, List.map_append]
  rw [app] at cat
  exact ds_set (i := 2) cat
def R_net (m : Mc) (ds : List D) (d : D) (m' : Mc) : Prop := ∃ (ns : List Int) (n : Nat), m = drN ns n ∧ ds = [.int 4] ∧ d = netD (netOf ns n) ∧ m' = drN ns (netEnd ns n)
theorem ok__law_net (T : Txt K mg) : FnOk P w K mg base CX0 2 T.a__law_net T.fd__law_net ["_law_draws", "_law_most"] (spO K 2 R_net) := by
  refine fnO T.F__law_net sc__law_net rfl (fun cdv A outer s H E hr => ?_)
  refine ⟨_, (pss_cons (ps_set (i := 2) sc__law_net.nd rfl (.inl rfl) (pe_op op_add pe_int (pe_call (ok__law_take T) (hr.mono (by decide)) (by rfl) T.g__law_take T.F__law_take.kp T.b__law_take .nil pass0 (pa_cons (pv 0) (pa_cons (pv 1) pa_nil)))))
  (pss_cons (ps_set (i := 3) sc__law_net.nd rfl (.inl rfl) (pe_lst pa_nil))
  (pss_cons (ps_for PassesOwn.never rfl (pi_range1 (by rfl) T.n_range (pa_cons (pe_op op_sub (pv 2) pe_int) pa_nil)) (pg_name (i := 4) sc__law_net.nd rfl (.inl rfl)) (pss_one (ps_if (pt_cmpR op_gt (pe_call (ok__law_take T) (hr.mono (by decide)) (by rfl) T.g__law_take T.F__law_take.kp T.b__law_take .nil pass0 (pa_cons (pv 0) (pa_cons pe_int pa_nil))) pe_int (nomark _)) (pss_one (ps_expr (pe_bm PySem.F.plainAttrs_list PySem.F.slot_list_append PySem.F.type_list_append mt_append (pv 3) (pa_cons (pe_tup (pa_cons (pv 4) (pa_cons (pe_op op_add (pv 4) pe_int) (pa_cons (pe_op op_add pe_int (pe_call (ok__law_take T) (hr.mono (by decide)) (by rfl) T.g__law_take T.F__law_take.kp T.b__law_take .nil pass0 (pa_cons (pv 0) (pa_cons pe_int pa_nil)))) (pa_cons (pe_call (ok__law_take T) (hr.mono (by decide)) (by rfl) T.g__law_take T.F__law_take.kp T.b__law_take .nil pass0 (pa_cons (pv 0) (pa_cons pe_int pa_nil))) pa_nil))))) pa_nil)))) pss_nil)))
  (pss_cons (ps_for PassesOwn.never rfl (pi_range1 (by rfl) T.n_range (pa_cons (pe_op op_add pe_int (pe_call (ok__law_take T) (hr.mono (by decide)) (by rfl) T.g__law_take T.F__law_take.kp T.b__law_take .nil pass0 (pa_cons (pv 0) (pa_cons pe_int pa_nil)))) pa_nil)) (pg_name (i := 5) sc__law_net.nd rfl (.inl rfl)) (pss_cons (ps_set (i := 6) sc__law_net.nd rfl (.inl rfl) (pe_call (ok__law_take T) (hr.mono (by decide)) (by rfl) T.g__law_take T.F__law_take.kp T.b__law_take .nil pass0 (pa_cons (pv 0) (pa_cons (pe_op op_sub (pv 2) pe_int) pa_nil))))
  (pss_cons (ps_set (i := 7) sc__law_net.nd rfl (.inl rfl) (pe_op op_add (pe_op op_add (pv 6) pe_int) (pe_call (ok__law_take T) (hr.mono (by decide)) (by rfl) T.g__law_take T.F__law_take.kp T.b__law_take .nil pass0 (pa_cons (pv 0) (pa_cons (pe_op op_sub (pe_op op_sub (pv 2) pe_int) (pv 6)) pa_nil)))))
  (pss_one (ps_expr (pe_bm PySem.F.plainAttrs_list PySem.F.slot_list_append PySem.F.type_list_append mt_append (pv 3) (pa_cons (pe_tup (pa_cons (pv 6) (pa_cons (pv 7) (pa_cons (pe_op op_add pe_int (pe_call (ok__law_take T) (hr.mono (by decide)) (by rfl) T.g__law_take T.F__law_take.kp T.b__law_take .nil pass0 (pa_cons (pv 0) (pa_cons pe_int pa_nil)))) (pa_cons (pe_call (ok__law_take T) (hr.mono (by decide)) (by rfl) T.g__law_take T.F__law_take.kp T.b__law_take .nil pass0 (pa_cons (pv 0) (pa_cons pe_int pa_nil))) pa_nil))))) pa_nil)))))))
  (pss_cons (ps_set (i := 8) sc__law_net.nd rfl (.inl rfl) (pe_tupleOf (by rfl) T.n_tuple (pe_lc (own := [("_law_place", 9)]) rfl sc__law_net.nd (pi_range1 (by rfl) T.n_range (pa_cons (pv 2) pa_nil)) (blkOk_by (own := [("_law_place", 9)]) (N := ["_law_draws", "_law_most", "_law_many", "_law_rows", "_law_at", "_law_turn", "_law_first", "_law_last", "_law_fees", "_law_place"]) (sc := defScope s__law_net) (by decide +kernel)) (fun _ _ _ _ _ => (pg_name (i := 9) sc__law_net.nd rfl (.inl rfl))) (fun _ _ _ _ _ => pts_nil) (fun _ _ _ _ _ => (pe_ifExp (pt_cmpR op_eq (pe_call (ok__law_take T) (hr.mono (by decide)) (by rfl) T.g__law_take T.F__law_take.kp T.b__law_take .nil pass0 (pa_cons (pv 0) (pa_cons pe_int pa_nil))) pe_int (nomark _)) pe_non (pe_op op_add pe_int (pe_call (ok__law_take T) (hr.mono (by decide)) (by rfl) T.g__law_take T.F__law_take.kp T.b__law_take .nil pass0 (pa_cons (pv 0) (pa_cons pe_int pa_nil)))))))))
  (pss_one (ps_ret (pe_tup (pa_cons (pv 2) (pa_cons (pe_tupleOf (by rfl) T.n_tuple (pe_callB (cr_sortedT rfl) (by rfl) T.n_sorted (by decide +kernel) (pa_cons (pe_callTy (cr_setOfT rfl hr.units) (by rfl) T.n_set (by decide +kernel) (pa_cons (pv 3) pa_nil)) pa_nil))) (pa_cons (pv 8) (pa_cons (pe_tup (pa_cons (pe_op op_add pe_int (pe_call (ok__law_take T) (hr.mono (by decide)) (by rfl) T.g__law_take T.F__law_take.kp T.b__law_take .nil pass0 (pa_cons (pv 0) (pa_cons pe_int pa_nil)))) (pa_cons (pe_call (ok__law_take T) (hr.mono (by decide)) (by rfl) T.g__law_take T.F__law_take.kp T.b__law_take .nil pass0 (pa_cons (pv 0) (pa_cons pe_int pa_nil))) pa_nil))) pa_nil)))))))))))), ?_⟩
  rintro m ds d m' ⟨ns, n, rfl, rfl, rfl, rfl⟩ -
  obtain ⟨m2, m5⟩ := netMany_bd ns n
  obtain ⟨t1, t2⟩ := netTurns_bd ns n
  obtain ⟨hraw, l1, l6⟩ := netRaw_ok ns n
  let many := netMany ns n
  have hmany : many = netMany ns n := rfl
  have hbd : ∀ r ∈ (netQB ns n).2, r.Bd := fun r hr => road_bd (hraw r hr) m5
  refine ⟨[.gone], .inl ?_⟩
  refine ds_seq (ds_set (i := 2) (dt_i0 dt_int (dt_take (n := n) (o := 0) (dt_var rfl) (dt_var (i := 1) rfl) rfl (by decide)))) ?_
  let f : Nat → Sl := fun _ => [some (.own 0), some (.dat (.int 4)), some (.dat (.int many)), some (.own 1), none, none, none, none, none, none]
  refine ds_seq (ss1 := f 0) (m1 := [drN ns (n + 1), .lst []]) (ds_set (i := 3) (dt_lstO da_nil)) ?_
  -- from place to place
  refine ds_seq (ss1 := f 0) (m1 := [drN ns (netQA ns n).1, .lst ((netQA ns n).2.map roadD)]) ?_ ?_
  · refine ds_forW [4] f (fun i => [drN ns (netA ns (n + 1) i).1, .lst ((netA ns (n + 1) i).2.map roadD)]) rfl (di_rng1 (j := many - 1) (da_cons (dt_i0 (dt_var (i := 2) rfl) dt_int) da_nil) (by omega) (by omega)) (fun _ => rfl) (fun _ => rfl) fun i hi => ?_
    obtain ⟨-, len⟩ := netA_ok (ns := ns) (c := n + 1) (many := many) i (by omega)
    refine ⟨(f 0).set 4 (some (.dat (.int (0 + (i : Nat))))), [], ?_, rfl⟩
    show DS K _ _ [drN ns (netA ns (n + 1) i).1, .lst ((netA ns (n + 1) i).2.map roadD)] (.nx _ [drN ns (netA ns (n + 1) (i + 1)).1, .lst ((netA ns (n + 1) (i + 1)).2.map roadD)])
    rw [show netA ns (n + 1) (i + 1) = if 0 < tk ns (netA ns (n + 1) i).1 12 then ((netA ns (n + 1) i).1 + 1 + 1 + 1, (netA ns (n + 1) i).2 ++ [⟨0 + (i : Nat), 0 + (i : Nat) + 1, 1 + tk ns ((netA ns (n + 1) i).1 + 1) 3, tk ns ((netA ns (n + 1) i).1 + 1 + 1) 3⟩]) else ((netA ns (n + 1) i).1 + 1, (netA ns (n + 1) i).2) from rfl]
    generalize netA ns (n + 1) i = q at len
    by_cases h : 0 < tk ns q.1 12
    · rw [if_pos h]
      refine ds_if_t (m1 := [drN ns (q.1 + 1), .lst (q.2.map roadD)]) (db_is (db_test (dt_i0b (dt_take (n := q.1) (o := 0) (dt_var (i := 0) rfl) dt_int rfl (by decide)) dt_int)) (decide_eq_true h)) ?_
      have app : (q.2 ++ [(⟨0 + (i : Nat), 0 + (i : Nat) + 1, 1 + tk ns (q.1 + 1) 3, tk ns (q.1 + 1 + 1) 3⟩ : Road)]).map roadD = q.2.map roadD ++ [roadD ⟨0 + (i : Nat), 0 + (i : Nat) + 1, 1 + tk ns (q.1 + 1) 3, tk ns (q.1 + 1 + 1) 3⟩] := by rw [List.map_append]; rfl
      dsimp only
      rw [app]
      refine ds_drop (r := .dat .non) (dt_append (n := 1) (ds := q.2.map roadD) (m1 := [drN ns (q.1 + 1), .lst (q.2.map roadD)]) (m2 := [drN ns (q.1 + 1 + 1 + 1), .lst (q.2.map roadD)]) (dt_var (i := 3) rfl) (da_cons ?_ da_nil) rfl rfl (by rw [List.length_map]; omega))
      exact dt_tup (da_cons (dt_var (i := 4) rfl) (da_cons (dt_i0 (dt_var (i := 4) rfl) dt_int) (da_cons (dt_i0 dt_int (dt_take (n := q.1 + 1) (o := 0) (dt_var (i := 0) rfl) dt_int rfl (by decide))) (da_cons (dt_take (n := q.1 + 1 + 1) (o := 0) (dt_var (i := 0) rfl) dt_int rfl (by decide)) da_nil))))
    · rw [if_neg h]
      exact ds_if_f (m1 := [drN ns (q.1 + 1), .lst (q.2.map roadD)]) (db_is (db_test (dt_i0b (dt_take (n := q.1) (o := 0) (dt_var (i := 0) rfl) dt_int rfl (by decide)) dt_int)) (decide_eq_false h)) ds_next
  -- one or two more
  refine ds_seq (ss1 := f 0) (m1 := [drN ns (netQB ns n).1, .lst ((netQB ns n).2.map roadD)]) ?_ ?_
  · let q0 : Nat × List Road := ((netQA ns n).1 + 1, (netQA ns n).2)
    obtain ⟨-, lenA⟩ := netA_ok (ns := ns) (c := n + 1) (many := many) (many - 1).toNat (by omega)
    have lenA' : (netQA ns n).2.length ≤ (many - 1).toNat := lenA
    refine ds_forW [5, 6, 7] f (fun i => [drN ns (netB ns many q0 i).1, .lst ((netB ns many q0 i).2.map roadD)]) rfl (di_rng1 (j := 1 + tk ns (netQA ns n).1 2) (da_cons (dt_i0 dt_int (dt_take (n := (netQA ns n).1) (o := 0) (dt_var (i := 0) rfl) dt_int rfl (by decide))) da_nil) (by unfold netTurns at t1 t2; omega) (by unfold netTurns at t1 t2; omega)) (fun _ => rfl) (fun _ => rfl) fun i hi => ?_
    have hi' : i < netTurns ns n := hi
    have len : (netB ns many q0 i).2.length = (netQA ns n).2.length + i := (netB_ok (ns := ns) (many := many) (q := q0) m2 (netA_ok (ns := ns) (c := n + 1) (many := many) (many - 1).toNat (by omega)).1 i).2
    show ∃ s' more, DS K _ _ _ (.nx s' ([drN ns ((netB ns many q0 i).1 + 1 + 1 + 1 + 1), .lst (((netB ns many q0 i).2 ++ [mkNet ns many (netB ns many q0 i).1]).map roadD)] ++ more)) ∧ _
    generalize netB ns many q0 i = q at len
    let r := mkNet ns many q.1
    obtain ⟨a0, a1⟩ := tk_bd (ns := ns) (n := q.1) (show 0 < many - 1 by omega)
    have app : (q.2 ++ [r]).map roadD = q.2.map roadD ++ [roadD r] := by rw [List.map_append]; rfl
    refine ⟨[some (.own 0), some (.dat (.int 4)), some (.dat (.int many)), some (.own 1), none, some (.dat (.int (0 + (i : Nat)))), some (.dat (.int r.a)), some (.dat (.int r.b)), none, none], [], ?_, rfl⟩
    show DS K _ _ [drN ns q.1, .lst (q.2.map roadD)] (.nx _ [drN ns (q.1 + 1 + 1 + 1 + 1), .lst ((q.2 ++ [r]).map roadD)])
    rw [app]
    refine ds_seq (ds_set (i := 6) (dt_take (n := q.1) (o := 0) (dt_var (i := 0) rfl) (dt_i0 (dt_var (i := 2) rfl) dt_int) rfl (by omega))) ?_
    refine ds_seq (ds_set (i := 7) (dt_i0 (dt_i0 (dt_var (i := 6) rfl) dt_int) (dt_take (n := q.1 + 1) (o := 0) (dt_var (i := 0) rfl) (dt_i0 (dt_i0 (dt_var (i := 2) rfl) dt_int) (dt_var (i := 6) rfl)) rfl (by omega)))) ?_
    refine ds_drop (r := .dat .non) (dt_append (n := 1) (ds := q.2.map roadD) (m1 := [drN ns (q.1 + 1 + 1), .lst (q.2.map roadD)]) (m2 := [drN ns (q.1 + 1 + 1 + 1 + 1), .lst (q.2.map roadD)]) (dt_var (i := 3) rfl) (da_cons ?_ da_nil) rfl rfl (by rw [List.length_map]; omega))
    exact dt_tup (da_cons (dt_var (i := 6) rfl) (da_cons (dt_var (i := 7) rfl) (da_cons (dt_i0 dt_int (dt_take (n := q.1 + 1 + 1) (o := 0) (dt_var (i := 0) rfl) dt_int rfl (by decide))) (da_cons (dt_take (n := q.1 + 1 + 1 + 1) (o := 0) (dt_var (i := 0) rfl) dt_int rfl (by decide)) da_nil))))
  -- fees
  let m3 : Nat → List Mc := fun i => [drN ns (netF ns (netQB ns n).1 i).1, .lst ((netQB ns n).2.map roadD)]
  let fees : D := .tup ((netQF ns n).2.map optD)
  refine ds_seq (ss1 := (f 0).set 8 (some (.dat fees))) (m1 := m3 many.toNat) (ds_set (i := 8) (dt_tupleL ?_)) ?_
  · refine dt_lc (K := K) (n := many.toNat) (it := fun i => .int (0 + (i : Nat))) (di_rng1 (j := many) (da_cons (dt_var (i := 2) rfl) da_nil) (by omega) (by omega)) (fun i => (netF ns (netQB ns n).1 i).2.map optD) m3 rfl rfl (fun i hi => by rw [List.length_map, (netF_ok (ns := ns) (c := (netQB ns n).1) i).2]; omega) fun i hi => ?_
    refine ⟨_, [9], dg_name, fun w hw => hw, .inl ?_⟩
    show ∃ mt y, DB K _ _ [drN ns (netF ns (netQB ns n).1 i).1, .lst ((netQB ns n).2.map roadD)] true mt ∧ DT K _ _ mt (.dat y) [drN ns (netF ns (netQB ns n).1 (i + 1)).1, .lst ((netQB ns n).2.map roadD)] ∧ (netF ns (netQB ns n).1 (i + 1)).2.map optD = _ ++ [y]
    rw [show netF ns (netQB ns n).1 (i + 1) = if tk ns (netF ns (netQB ns n).1 i).1 4 = 0 then ((netF ns (netQB ns n).1 i).1 + 1, (netF ns (netQB ns n).1 i).2 ++ [none]) else ((netF ns (netQB ns n).1 i).1 + 1 + 1, (netF ns (netQB ns n).1 i).2 ++ [some (1 + tk ns ((netF ns (netQB ns n).1 i).1 + 1) 9)]) from rfl]
    generalize netF ns (netQB ns n).1 i = q
    by_cases h : tk ns q.1 4 = 0
    · rw [if_pos h]
      refine ⟨_, .non, db_yes, dt_if_t (db_is (db_test (dt_eqI (dt_take (n := q.1) (o := 0) (dt_var (i := 0) rfl) dt_int rfl (by decide)) dt_int)) (decide_eq_true h)) dt_non, ?_⟩
      show (q.2 ++ [none]).map optD = _
      rw [List.map_append]
      rfl
    · rw [if_neg h]
      refine ⟨_, .int (1 + tk ns (q.1 + 1) 9), db_yes, dt_if_f (db_is (db_test (dt_eqI (dt_take (n := q.1) (o := 0) (dt_var (i := 0) rfl) dt_int rfl (by decide)) dt_int)) (decide_eq_false h)) (dt_i0 dt_int (dt_take (n := q.1 + 1) (o := 0) (dt_var (i := 0) rfl) dt_int rfl (by decide))), ?_⟩
      show (q.2 ++ [some _]).map optD = _
      rw [List.map_append]
      rfl
  -- the tuple
  refine ds_frz (n := 1) (ds := (netQB ns n).2.map roadD) 3 rfl rfl ?_
  have erow : (netQB ns n).2.map roadD = ((netQB ns n).2.map Road.row).map rowD := by
    rw [List.map_map]
    rfl
  have erow2 : (sortRoads (netQB ns n).2).map roadD = ((sortRoads (netQB ns n).2).map Road.row).map rowD := by
    rw [List.map_map]
    rfl
  refine ds_ret (dt_tup (m1 := [drN ns (netEnd ns n), .gone]) (da_cons (dt_var (i := 2) rfl) (da_cons (dt_tupleL (m1 := [drN ns (netQF ns n).1, .gone]) ?_) (da_cons (dt_var (i := 8) rfl) (da_cons (dt_tup (da_cons (dt_i0 dt_int (dt_take (n := (netQF ns n).1) (o := 0) (dt_var (i := 0) rfl) dt_int rfl (by decide))) (da_cons (dt_take (n := (netQF ns n).1 + 1) (o := 0) (dt_var (i := 0) rfl) dt_int rfl (by decide)) da_nil))) da_nil)))))
  show DT K _ _ _ (.dat (.lst ((sortRoads (netQB ns n).2).map roadD))) _
  rw [erow2]
  refine dt_sortSet (nss := (netQB ns n).2.map Road.row) (n := 4) (Bd := 64) (by rw [← erow]; exact dt_var (i := 3) rfl) (by rw [List.length_map]; omega) (by decide) (fun x hx => ?_) (fun out' h => sort_uniq hbd out' h)
  obtain ⟨r, hr, rfl⟩ := List.mem_map.mp hx
  exact ⟨rfl, hbd r hr⟩
/-! drawn states -/
def stN (ns : List Int) (n : Nat) (M : MapD) : StD := ⟨tk ns n M.places, tk ns (n + 1) (M.room + 1), tk ns (n + 1 + 1) (M.bear + 1), tk ns (n + 1 + 1 + 1) 5⟩
theorem stN_ok {ns : List Int} {n : Nat} {M : MapD} (h : M.Ok) : (stN ns n M).Ok M := by
  have p2 := h.p2
  have m1 := h.m1
  have b0 := h.b0
  obtain ⟨a0, a1⟩ := tk_bd (ns := ns) (n := n) (show 0 < M.places by omega)
  obtain ⟨c0, c1⟩ := tk_bd (ns := ns) (n := n + 1) (show 0 < M.room + 1 by omega)
  obtain ⟨d0, d1⟩ := tk_bd (ns := ns) (n := n + 1 + 1) (show 0 < M.bear + 1 by omega)
  obtain ⟨e0, e1⟩ := tk_bd (ns := ns) (n := n + 1 + 1 + 1) (show (0 : Int) < 5 by decide)
  exact ⟨a0, by show tk ns n M.places ≤ M.places - 1; omega, c0, by show tk ns (n + 1) (M.room + 1) ≤ M.room; omega, d0, by show tk ns (n + 1 + 1) (M.bear + 1) ≤ M.bear; omega, e0, by show tk ns (n + 1 + 1 + 1) 5 ≤ 4; omega⟩
def R_stateN (m : Mc) (ds : List D) (d : D) (m' : Mc) : Prop := ∃ (ns : List Int) (n : Nat) (M : MapD), m = drN ns n ∧ ds = [netD M] ∧ M.Ok ∧ d = stD (stN ns n M) ∧ m' = drN ns (n + 1 + 1 + 1 + 1)
theorem ok__law_state (T : Txt K mg) : FnOk P w K mg base CX0 2 T.a__law_state T.fd__law_state ["_law_draws", "_law_net_here"] (spO K 2 R_stateN) := by
  refine fnO T.F__law_state sc__law_state rfl (fun cdv A outer s H E hr => ?_)
  refine ⟨_, (pss_one (ps_ret (pe_tup (pa_cons (pe_call (ok__law_take T) (hr.mono (by decide)) (by rfl) T.g__law_take T.F__law_take.kp T.b__law_take .nil pass0 (pa_cons (pv 0) (pa_cons (pe_ix (ixT K) (pv 1) pe_int (fun _ _ => rfl)) pa_nil))) (pa_cons (pe_call (ok__law_take T) (hr.mono (by decide)) (by rfl) T.g__law_take T.F__law_take.kp T.b__law_take .nil pass0 (pa_cons (pv 0) (pa_cons (pe_op op_add (pe_ix (ixT K) (pe_ix (ixT K) (pv 1) pe_int (fun _ _ => rfl)) pe_int (fun _ _ => rfl)) pe_int) pa_nil))) (pa_cons (pe_call (ok__law_take T) (hr.mono (by decide)) (by rfl) T.g__law_take T.F__law_take.kp T.b__law_take .nil pass0 (pa_cons (pv 0) (pa_cons (pe_op op_add (pe_ix (ixT K) (pe_ix (ixT K) (pv 1) pe_int (fun _ _ => rfl)) pe_int (fun _ _ => rfl)) pe_int) pa_nil))) (pa_cons (pe_call (ok__law_take T) (hr.mono (by decide)) (by rfl) T.g__law_take T.F__law_take.kp T.b__law_take .nil pass0 (pa_cons (pv 0) (pa_cons pe_int pa_nil))) pa_nil))))))), ?_⟩
  rintro m ds d m' ⟨ns, n, M, rfl, rfl, h, rfl, rfl⟩ -
  have p2 := h.p2
  have m1 := h.m1
  have b0 := h.b0
  let sl : Sl := [some (.own 0), some (.dat (netD M))]
  have box : ∀ (mm : List Mc) (j : Nat) (x : Int), (j = 0 ∧ x = M.room) ∨ (j = 1 ∧ x = M.bear) → DT K (tOp (rIxT K) (tOp (rIxT K) (tVar 1) (tC (.int 3))) (tC (.int (j : Nat)))) sl mm (.dat (.int x)) mm := fun mm j x h => by
    rcases h with ⟨rfl, rfl⟩ | ⟨rfl, rfl⟩
    · exact dt_ixT (dt_ixT (dt_var (i := 1) rfl) dt_int rfl) dt_int rfl
    · exact dt_ixT (dt_ixT (dt_var (i := 1) rfl) dt_int rfl) dt_int rfl
  refine .rt (ds_ret (dt_tup (da_cons (dt_take (n := n) (o := 0) (dt_var (i := 0) rfl) (dt_ixT (dt_var (i := 1) rfl) dt_int rfl) rfl (by omega)) (da_cons (dt_take (n := n + 1) (o := 0) (dt_var (i := 0) rfl) (dt_i0 (box _ 0 _ (.inl ⟨rfl, rfl⟩)) dt_int) rfl (by omega)) (da_cons (dt_take (n := n + 1 + 1) (o := 0) (dt_var (i := 0) rfl) (dt_i0 (box _ 1 _ (.inr ⟨rfl, rfl⟩)) dt_int) rfl (by omega)) (da_cons (dt_take (n := n + 1 + 1 + 1) (o := 0) (dt_var (i := 0) rfl) dt_int rfl (by decide)) da_nil))))))
end
end K33
end
section
set_option Elab.async false
set_option linter.all false
set_option maxRecDepth 100000
set_option maxHeartbeats 4000000
namespace K33
open PySem PySem.Spec PyProof.Rows L2 DL
/-! ### the law's own roads and hours, on a net -/
def loadN (M : MapD) (x : Int × Int) : D := if x.2 > M.bear then .non else .tup [.int x.1, .int x.2]
section
variable {K : PySem.W.Frag} {ss : Sl} {mem m1 m2 : List Mc} {te ta : TE}
theorem net0 {M : MapD} (h : DT K te ss mem (.dat (netD M)) m1) : DT K (tOp (rIxT K) te (tC (.int 0))) ss mem (.dat (.int M.places)) m1 := dt_ixT h dt_int rfl
theorem net1 {M : MapD} (h : DT K te ss mem (.dat (netD M)) m1) : DT K (tOp (rIxT K) te (tC (.int 1))) ss mem (.dat (.tup (M.roads.map roadD))) m1 := dt_ixT h dt_int rfl
theorem net2 {M : MapD} (h : DT K te ss mem (.dat (netD M)) m1) : DT K (tOp (rIxT K) te (tC (.int 2))) ss mem (.dat (.tup (M.prices.map optD))) m1 := dt_ixT h dt_int rfl
theorem net3 {M : MapD} (h : DT K te ss mem (.dat (netD M)) m1) : DT K (tOp (rIxT K) te (tC (.int 3))) ss mem (.dat (.tup [.int M.room, .int M.bear])) m1 := dt_ixT h dt_int rfl
theorem net30 {M : MapD} (h : DT K te ss mem (.dat (netD M)) m1) : DT K (tOp (rIxT K) (tOp (rIxT K) te (tC (.int 3))) (tC (.int 0))) ss mem (.dat (.int M.room)) m1 := dt_ixT (net3 h) dt_int rfl
theorem net31 {M : MapD} (h : DT K te ss mem (.dat (netD M)) m1) : DT K (tOp (rIxT K) (tOp (rIxT K) te (tC (.int 3))) (tC (.int 1))) ss mem (.dat (.int M.bear)) m1 := dt_ixT (net3 h) dt_int rfl
theorem netRoad {M : MapD} {r : Nat} (h : DT K te ss mem (.dat (netD M)) m1) (g : DT K ta ss m1 (.dat (.int (r : Nat))) m2) (hr : r < M.roads.length) : DT K (tOp (rIxT K) (tOp (rIxT K) te (tC (.int 1))) ta) ss mem (.dat (roadD (M.road r))) m2 := dt_ixT (net1 h) g (road_at hr)
theorem netPrice {M : MapD} {p : Int} (h : DT K te ss mem (.dat (netD M)) m1) (g : DT K ta ss m1 (.dat (.int p)) m2) (p0 : 0 ≤ p) (p1 : p < M.prices.length) : DT K (tOp (rIxT K) (tOp (rIxT K) te (tC (.int 2))) ta) ss mem (.dat (optD (M.price p))) m2 := dt_ixT (net2 h) g (price_at p0 p1)
theorem netRd1 {M : MapD} {r : Nat} (h : DT K te ss mem (.dat (netD M)) m1) (g : DT K ta ss m1 (.dat (.int (r : Nat))) m2) (hr : r < M.roads.length) : DT K (tOp (rIxT K) (tOp (rIxT K) (tOp (rIxT K) te (tC (.int 1))) ta) (tC (.int 1))) ss mem (.dat (.int (M.road r).b)) m2 := dt_ixT (netRoad h g hr) dt_int rfl
theorem netRd2 {M : MapD} {r : Nat} (h : DT K te ss mem (.dat (netD M)) m1) (g : DT K ta ss m1 (.dat (.int (r : Nat))) m2) (hr : r < M.roads.length) : DT K (tOp (rIxT K) (tOp (rIxT K) (tOp (rIxT K) te (tC (.int 1))) ta) (tC (.int 2))) ss mem (.dat (.int (M.road r).h)) m2 := dt_ixT (netRoad h g hr) dt_int rfl
theorem netRd3 {M : MapD} {r : Nat} (h : DT K te ss mem (.dat (netD M)) m1) (g : DT K ta ss m1 (.dat (.int (r : Nat))) m2) (hr : r < M.roads.length) : DT K (tOp (rIxT K) (tOp (rIxT K) (tOp (rIxT K) te (tC (.int 1))) ta) (tC (.int 3))) ss mem (.dat (.int (M.road r).m)) m2 := dt_ixT (netRoad h g hr) dt_int rfl
end
section
variable {P : Program} {w : World} {K : PySem.W.Frag} {mg : Str → Option Value} {base : Heap} {k : Nat}
def R_roadsN (ds : List D) (d : D) : Prop := ∃ M p, ds = [netD M, .int p] ∧ M.roads.length ≤ 7 ∧ d = .lst ((M.lead p).map fun i => .int (i : Nat))
theorem ok__law_roads (T : Txt K mg) : FnOk P w K mg base CX0 1 T.a__law_roads T.fd__law_roads ["_law_net_here", "_law_place"] (spP K 2 R_roadsN) := by
  refine fnP T.F__law_roads sc__law_roads rfl (fun cdv A outer s H E hr => ?_)
  refine ⟨_, (pss_one (ps_ret (pe_lc (own := [("_law_at", 2), ("_law_road", 3)]) rfl sc__law_roads.nd (piEnumT K (by rfl) T.n_enumerate (pa_cons (pe_ix (ixT K) (pv 0) pe_int (fun _ _ => rfl)) pa_nil)) (blkOk_by (own := [("_law_at", 2), ("_law_road", 3)]) (N := ["_law_net_here", "_law_place", "_law_at", "_law_road"]) (sc := defScope s__law_roads) (by decide +kernel)) (fun _ _ _ _ _ => (pgTup K 2 (pgs_cons (pg_name (i := 2) sc__law_roads.nd rfl (.inl rfl)) (pgs_cons (pg_name (i := 3) sc__law_roads.nd rfl (.inl rfl)) pgs_nil)))) (fun _ _ _ _ _ => (pts_one (pt_cmpR op_eq (pe_ix (ixT K) (pv 3) pe_int (fun _ _ => rfl)) (pv 1) (nomark _)))) (fun _ _ _ _ _ => (pv 2))))), ?_⟩
  rintro ds d ⟨M, p, rfl, hl, rfl⟩ -
  refine .rt (ds_ret ?_)
  have e : M.roads.length = (M.roads.map roadD).length := by rw [List.length_map]
  unfold MapD.lead
  rw [e]
  refine dt_lcIf (di_enumT (net1 (dt_var (i := 0) rfl))) (fun i => .int (i : Nat)) (fun i => decide ((M.road i).a = p)) (by rw [← e]; omega) fun i hi => ?_
  rw [← e] at hi
  refine ⟨_, _, dg_tup (dgs_cons dg_name (dgs_cons dg_name dgs_nil)) rfl, by decide, ?_, fun _ => dt_var (i := 2) rfl⟩
  rw [nth_map roadD hi ⟨0, 0, 0, 0⟩]
  exact db_test (dt_eqI (dt_ixT (dt_var (i := 3) rfl) dt_int rfl) (dt_var (i := 1) rfl))
def R_loadN (ds : List D) (d : D) : Prop := ∃ (M : MapD) (i w m : Int) (n : Nat), ds = [netD M, .int i, .int w, .int m, .int (n : Nat)] ∧ n ≤ 1000 ∧ d = loadN M (hours m (i, w) n)
theorem ok__law_load (T : Txt K mg) : FnOk P w K mg base CX0 1 T.a__law_load T.fd__law_load ["_law_net_here", "_law_ice", "_law_warm", "_law_melt", "_law_hours"] (spP K 5 R_loadN) := by
  refine fnP T.F__law_load sc__law_load rfl (fun cdv A outer s H E hr => ?_)
  refine ⟨_, (pss_cons (ps_for PassesOwn.never rfl (pi_range1 (by rfl) T.n_range (pa_cons (pv 4) pa_nil)) (pg_name (i := 5) sc__law_load.nd rfl (.inl rfl)) (pss_one (ps_if (pt_cmpR op_lt (pv 1) (pv 3) (nomark _)) (pss_cons (ps_aug (i := 2) sc__law_load.nd rfl (.inl rfl) pe_int ip_add)
  (pss_one (ps_set (i := 1) sc__law_load.nd rfl (.inl rfl) pe_int))) (pss_one (ps_aug (i := 1) sc__law_load.nd rfl (.inl rfl) (pv 3) ip_sub)))))
  (pss_one (ps_ret (pe_ifExp (pt_cmpR op_gt (pv 2) (pe_ix (ixT K) (pe_ix (ixT K) (pv 0) pe_int (fun _ _ => rfl)) pe_int (fun _ _ => rfl)) (nomark _)) pe_non (pe_tup (pa_cons (pv 1) (pa_cons (pv 2) pa_nil))))))), ?_⟩
  rintro ds d ⟨M, i, w, m, n, rfl, hn, rfl⟩ -
  let x := fun n => hours m (i, w) n
  let f : Nat → Sl := fun j => [some (.dat (netD M)), some (.dat (.int (x j).1)), some (.dat (.int (x j).2)), some (.dat (.int m)), some (.dat (.int (n : Nat))), none]
  refine .rt (ds_seq (ss1 := f n) (m1 := []) (ds_forP [5] f rfl (di_rng1 (j := ((n : Nat) : Int)) (da_cons (dt_var (i := 4) rfl) da_nil) (by omega) (by omega)) fun j hj => ?_) ?_)
  · have en : x (j + 1) = hour m (x j) := rfl
    by_cases hlt : (x j).1 < m
    · have e1 : x (j + 1) = (0, (x j).2 + 1) := by
        rw [en]
        unfold hour
        rw [if_neg (by omega)]
      refine ⟨[some (.dat (netD M)), some (.dat (.int (x (j + 1)).1)), some (.dat (.int (x (j + 1)).2)), some (.dat (.int m)), some (.dat (.int (n : Nat))), some (.dat (.int (0 + (j : Nat))))], ?_, rfl⟩
      rw [e1]
      refine ds_if_t (db_is (db_test (dt_i0b (dt_var (i := 1) rfl) (dt_var (i := 3) rfl))) (decide_eq_true hlt)) ?_
      exact ds_seq (ds_aug (i := 2) (a := (x j).2) (g := fun a b => a + b) rfl dt_int) (ds_set (i := 1) dt_int)
    · have e1 : x (j + 1) = ((x j).1 - m, (x j).2) := by
        rw [en]
        unfold hour
        rw [if_pos (by omega)]
      refine ⟨[some (.dat (netD M)), some (.dat (.int (x (j + 1)).1)), some (.dat (.int (x (j + 1)).2)), some (.dat (.int m)), some (.dat (.int (n : Nat))), some (.dat (.int (0 + (j : Nat))))], ?_, rfl⟩
      rw [e1]
      refine ds_if_f (db_is (db_test (dt_i0b (dt_var (i := 1) rfl) (dt_var (i := 3) rfl))) (decide_eq_false hlt)) ?_
      exact ds_aug (i := 1) (a := (x j).1) (g := fun a b => a - b) rfl (dt_var (i := 3) rfl)
  · refine ds_ret ?_
    refine dt_if (b := decide ((x n).2 > M.bear)) (db_test (dt_i0b (g := fun i j => decide (i > j)) (dt_var (i := 2) rfl) (net31 (dt_var (i := 0) rfl)))) ?_
    unfold loadN
    show if _ then _ else _
    by_cases hb : (x n).2 > M.bear
    · rw [if_pos (decide_eq_true hb), if_pos hb]
      exact dt_non
    · rw [if_neg (by simpa using hb), if_neg hb]
      exact dt_tup (da_cons (dt_var (i := 1) rfl) (da_cons (dt_var (i := 2) rfl) da_nil))
end
end K33
end
section
set_option Elab.async false
set_option linter.all false
set_option maxRecDepth 100000
set_option maxHeartbeats 4000000
namespace K33
open PySem PySem.Spec PyProof.Rows L2 DL
theorem road_ok {M : MapD} (h : M.Ok) {r : Nat} (hr : r < M.roads.length) : (M.road r).Ok M.places := by
  refine h.rd _ ?_
  unfold MapD.road
  exact getD_in hr _
section
variable {P : Program} {w : World} {K : PySem.W.Frag} {mg : Str → Option Value} {base : Heap} {k : Nat}
end
end K33
end
section
set_option Elab.async false
set_option linter.all false
set_option maxRecDepth 100000
set_option maxHeartbeats 4000000
namespace K33
open PySem PySem.Spec PyProof.Rows L2 DL
theorem price_bd {M : MapD} (hM : M.Ok) {p : Int} (p0 : 0 ≤ p) (pn : p < M.prices.length) : ∀ x, M.price p = some x → 1 ≤ x ∧ x ≤ 9 := fun x e => by
  refine hM.pr (M.price p) ?_ x e
  unfold MapD.price
  exact getD_in (by omega) _
section
variable {P : Program} {w : World} {K : PySem.W.Frag} {mg : Str → Option Value} {base : Heap} {k : Nat}
end
end K33
end
section
set_option Elab.async false
set_option linter.all false
set_option maxRecDepth 100000
set_option maxHeartbeats 4000000
namespace K33
open PySem PySem.Spec PyProof.Rows L2 DL
/-! ### the law's own moves and results -/
section
variable {P : Program} {w : World} {K : PySem.W.Frag} {mg : Str → Option Value} {base : Heap} {k : Nat}
def R_endN (ds : List D) (d : D) : Prop := ∃ (M : MapD) (s : StD) (p r more : Nat), ds = [netD M, stD s, mvD p r, .int (more : Nat)] ∧ M.Ok ∧ r < M.roads.length ∧ s.i + (p : Int) ≤ M.room ∧ more ≤ 4 ∧
  d = stO (endS M (M.road r) s.l (hours (M.road r).m (s.i + p, s.w) ((M.road r).h.toNat + more)) more)
theorem ok__law_end (T : Txt K mg) : FnOk P w K mg base CX0 2 T.a__law_end T.fd__law_end ["_law_net_here", "_law_state_here", "_law_move", "_law_more"] (spP K 4 R_endN) := by
  refine fnP T.F__law_end sc__law_end rfl (fun cdv A outer s H E hr => ?_)
  refine ⟨_, (pss_cons (ps_set (i := 4) sc__law_end.nd rfl (.inl rfl) (pe_ix (ixT K) (pe_ix (ixT K) (pv 0) pe_int (fun _ _ => rfl)) (pe_ix (ixT K) (pv 2) pe_int (fun _ _ => rfl)) (fun _ _ => rfl)))
  (pss_cons (ps_set (i := 5) sc__law_end.nd rfl (.inl rfl) (pe_call (ok__law_load T) (hr.mono (by decide)) (by rfl) T.g__law_load T.F__law_load.kp T.b__law_load .nil pass0 (pa_cons (pv 0) (pa_cons (pe_callB (call_min2 rfl) (by rfl) T.n_min (by decide +kernel) (pa_cons (pe_ix (ixT K) (pe_ix (ixT K) (pv 0) pe_int (fun _ _ => rfl)) pe_int (fun _ _ => rfl)) (pa_cons (pe_op op_add (pe_ix (ixT K) (pv 1) pe_int (fun _ _ => rfl)) (pe_ix (ixT K) (pv 2) pe_int (fun _ _ => rfl))) pa_nil))) (pa_cons (pe_ix (ixT K) (pv 1) pe_int (fun _ _ => rfl)) (pa_cons (pe_ix (ixT K) (pv 4) pe_int (fun _ _ => rfl)) (pa_cons (pe_op op_add (pe_ix (ixT K) (pv 4) pe_int (fun _ _ => rfl)) (pv 3)) pa_nil)))))))
  (pss_cons (ps_if (pt_cmp (pc_isN (pv 5))) (pss_one (ps_ret pe_non)) pss_nil)
  (pss_one (ps_ret (pe_tup (pa_cons (pe_ix (ixT K) (pv 4) pe_int (fun _ _ => rfl)) (pa_cons (pe_ix (ixT K) (pv 5) pe_int (fun _ _ => rfl)) (pa_cons (pe_ix (ixT K) (pv 5) pe_int (fun _ _ => rfl)) (pa_cons (pe_op op_sub (pe_ix (ixT K) (pv 1) pe_int (fun _ _ => rfl)) (pv 3)) pa_nil)))))))))), ?_⟩
  rintro ds d ⟨M, s, p, r, more, rfl, hM, hr', fit, m4, rfl⟩ -
  obtain ⟨-, -, -, h1, h4, -, -⟩ := road_ok hM hr'
  let n : Nat := (M.road r).h.toNat + more
  have eh : (M.road r).h + (more : Int) = ((n : Nat) : Int) := by show (M.road r).h + (more : Int) = (((M.road r).h.toNat + more : Nat) : Int); omega
  have em : (if s.i + (p : Int) < M.room then s.i + (p : Int) else M.room) = s.i + p := by split <;> omega
  let s4 : Sl := [some (.dat (netD M)), some (.dat (stD s)), some (.dat (mvD p r)), some (.dat (.int (more : Nat))), some (.dat (roadD (M.road r))), none]
  refine .rt (ds_seq (ss1 := s4) (m1 := []) (ds_set (i := 4) (netRoad (dt_var (i := 0) rfl) (dt_ixT (dt_var (i := 2) rfl) dt_int rfl) hr')) ?_)
  have x := hours (M.road r).m (s.i + p, s.w) n
  refine ds_seq (ss1 := s4.set 5 (some (.dat (loadN M (hours (M.road r).m (s.i + p, s.w) n))))) (m1 := []) (ds_set (i := 5) (dt_call (da_cons (dt_var (i := 0) rfl) (da_cons (dt_min2 (da_cons (net30 (dt_var (i := 0) rfl)) (da_cons (dt_i0 (dt_ixT (dt_var (i := 1) rfl) dt_int rfl) (dt_ixT (dt_var (i := 2) rfl) dt_int rfl)) da_nil))) (da_cons (dt_ixT (dt_var (i := 1) rfl) dt_int rfl) (da_cons (dt_ixT (dt_var (i := 4) rfl) dt_int rfl) (da_cons (dt_i0 (dt_ixT (dt_var (i := 4) rfl) dt_int rfl) (dt_var (i := 3) rfl)) da_nil))))) ⟨M, s.i + p, s.w, (M.road r).m, n, by rw [em, eh], by show (M.road r).h.toNat + more ≤ 1000; omega, rfl⟩)) ?_
  show DS K _ _ _ (.rt (.dat (stO (endS M (M.road r) s.l (hours (M.road r).m (s.i + p, s.w) n) more))) _)
  generalize hours (M.road r).m (s.i + p, s.w) n = y
  unfold endS
  by_cases hb : y.2 > M.bear
  · rw [if_neg (by omega)]
    have e5 : loadN M y = .non := by unfold loadN; rw [if_pos hb]
    rw [e5]
    exact ds_stop (ds_if_t (db_b (dt_isN (d := .non) (dt_var (i := 5) rfl))) (ds_ret dt_non))
  · rw [if_pos (by omega)]
    have e5 : loadN M y = .tup [.int y.1, .int y.2] := by unfold loadN; rw [if_neg hb]
    rw [e5]
    refine ds_seq (ds_if_f (db_b (dt_isN (d := .tup [.int y.1, .int y.2]) (dt_var (i := 5) rfl))) ds_next) (ds_ret ?_)
    exact dt_tup (da_cons (dt_ixT (dt_var (i := 4) rfl) dt_int rfl) (da_cons (dt_ixT (ds := [.int y.1, .int y.2]) (dt_var (i := 5) rfl) dt_int rfl) (da_cons (dt_ixT (ds := [.int y.1, .int y.2]) (dt_var (i := 5) rfl) dt_int rfl) (da_cons (dt_i0 (dt_ixT (dt_var (i := 1) rfl) dt_int rfl) (dt_var (i := 3) rfl)) da_nil))))
def R_costN (ds : List D) (d : D) : Prop := ∃ (M : MapD) (p : Int) (n r : Nat), ds = [netD M, .int p, mvD n r] ∧ 0 ≤ p ∧ p < M.prices.length ∧ n ≤ 6 ∧ (∀ x, M.price p = some x → 1 ≤ x ∧ x ≤ 9) ∧ (M.price p = none → n = 0) ∧ d = .int (M.feeAt p n)
theorem ok__law_cost (T : Txt K mg) : FnOk P w K mg base CX0 1 T.a__law_cost T.fd__law_cost ["_law_net_here", "_law_place", "_law_move"] (spP K 3 R_costN) := by
  refine fnP T.F__law_cost sc__law_cost rfl (fun cdv A outer s H E hr => ?_)
  refine ⟨_, (pss_one (ps_ret (pe_ifExp (pt_cmpR op_gt (pe_ix (ixT K) (pv 2) pe_int (fun _ _ => rfl)) pe_int (nomark _)) (pe_op op_mul (pe_ix (ixT K) (pv 2) pe_int (fun _ _ => rfl)) (pe_ix (ixT K) (pe_ix (ixT K) (pv 0) pe_int (fun _ _ => rfl)) (pv 1) (fun _ _ => rfl))) pe_int))), ?_⟩
  rintro ds d ⟨M, p, n, r, rfl, p0, p1, n6, pr, np, rfl⟩ -
  refine .rt (ds_ret ?_)
  have t := db_test (dt_i0b (K := K) (ss := [some (.dat (netD M)), some (.dat (.int p)), some (.dat (mvD n r))]) (mem := []) (g := fun i j => decide (i > j)) (dt_ixT (dt_var (i := 2) rfl) (dt_int (i := 0)) rfl) (dt_int (i := 0)))
  by_cases h : ((n : Nat) : Int) > 0
  · rw [decide_eq_true h] at t
    unfold MapD.feeAt
    cases q : M.price p with
    | none => have := np q; omega
    | some x =>
      obtain ⟨x1, x9⟩ := pr x q
      have pv : DT K _ [some (.dat (netD M)), some (.dat (.int p)), some (.dat (mvD n r))] [] (.dat (optD (M.price p))) [] := netPrice (dt_var (i := 0) rfl) (dt_var (i := 1) rfl) p0 p1
      rw [q] at pv
      exact dt_if_t t (dt_ic (dt_ixT (dt_var (i := 2) rfl) dt_int rfl) pv (.inr ⟨by omega, by omega⟩))
  · rw [decide_eq_false h] at t
    have n0 : n = 0 := by omega
    subst n0
    have e : M.feeAt p 0 = 0 := by
      unfold MapD.feeAt
      cases M.price p <;> simp
    rw [e]
    exact dt_if_f t dt_int
end
end K33
end
section
set_option Elab.async false
set_option linter.all false
set_option maxRecDepth 100000
set_option maxHeartbeats 4000000
namespace K33
open PySem PySem.Spec PyProof.Rows L2 DL
/-! ### the state behind a plan -/
def firstS (l : Int) : StD := ⟨0, 0, 0, l⟩
theorem first_ok {M : MapD} (hM : M.Ok) {l : Int} (h0 : 0 ≤ l) (h4 : l ≤ 4) : StD.Ok M (firstS l) := by
  have p2 := hM.p2
  have m1 := hM.m1
  exact ⟨Int.le_refl 0, by show (0 : Int) ≤ M.places - 1; omega, Int.le_refl 0, by show (0 : Int) ≤ M.room; omega, Int.le_refl 0, hM.b0, h0, h4⟩
theorem hours_in {m R : Int} (m0 : 0 ≤ m) : ∀ (n : Nat) (x : Int × Int), 0 ≤ x.1 → x.1 ≤ R → 0 ≤ x.2 → 0 ≤ (hours m x n).1 ∧ (hours m x n).1 ≤ R ∧ 0 ≤ (hours m x n).2
  | 0, x, a, b, c => ⟨a, b, c⟩
  | n + 1, x, a, b, c => by
    obtain ⟨h1, h2, h3⟩ := hours_in (R := R) m0 n x a b c
    show 0 ≤ (hour m (hours m x n)).1 ∧ (hour m (hours m x n)).1 ≤ R ∧ 0 ≤ (hour m (hours m x n)).2
    unfold hour
    split
    · exact ⟨by show 0 ≤ (hours m x n).1 - m; omega, by show (hours m x n).1 - m ≤ R; omega, h3⟩
    · exact ⟨Int.le_refl 0, by show (0 : Int) ≤ R; omega, by show 0 ≤ (hours m x n).2 + 1; omega⟩
theorem ends_ok {M : MapD} {s e : StD} {m : Nat × Nat} (hM : M.Ok) (hs : s.Ok M) (h : m ∈ M.mv s) (he : some e ∈ M.endsS s m.1 m.2) : e.Ok M := by
  obtain ⟨more, hm, z⟩ := List.mem_map.mp he
  have lm := List.mem_range.mp hm
  have lt := lead_lt (mv_in h).2
  have mem : M.road m.2 ∈ M.roads := by
    unfold MapD.road
    rw [List.getD_eq_getElem?_getD, List.getElem?_eq_getElem lt]
    exact List.getElem_mem lt
  have rd := hM.rd _ mem
  have fits : s.i + (m.1 : Int) ≤ M.room := by
    have h1 := (mv_in h).1
    have h2 := hs.i1
    unfold MapD.most at h1
    split at h1 <;> omega
  have i0 := hs.i0
  obtain ⟨x1, x2, x3⟩ := hours_in (R := M.room) rd.m0 ((M.road m.2).h.toNat + more) (s.i + (m.1 : Int), s.w) (by show 0 ≤ s.i + (m.1 : Int); omega) fits hs.w0
  unfold endS at z
  split at z
  · rename_i bear
    cases z
    have l1 := hs.l1
    have a0 := rd.a0
    have ab := rd.ab
    exact ⟨by show 0 ≤ (M.road m.2).b; omega, rd.bn, x1, x2, x3, bear, by show 0 ≤ s.l - (more : Int); omega, by show s.l - (more : Int) ≤ 4; omega⟩
  · cases z
theorem ends_many (M : MapD) (s : StD) (a b : Nat) : (M.endsS s a b).length = (s.l + 1).toNat := by
  unfold MapD.endsS
  rw [List.length_map, List.length_range]
section
variable {P : Program} {w : World} {K : PySem.W.Frag} {mg : Str → Option Value} {base : Heap} {k : Nat}
theorem ok_first_state (T : Txt K mg) : FnOk P w K mg base CX0 1 T.a_first_state T.fd_first_state ["late"] (spP K 1 fun ds d => ∃ l : Int, ds = [.int l] ∧ d = stD (firstS l)) := by
  refine fnP T.F_first_state sc_first_state rfl (fun cdv A outer s H E hr => ?_)
  refine ⟨_, (pss_one (ps_ret (pe_tup (pa_cons pe_int (pa_cons pe_int (pa_cons pe_int (pa_cons (pv 0) pa_nil))))))), ?_⟩
  rintro ds d ⟨l, rfl, rfl⟩ -
  exact .rt (ds_ret (dt_tup (da_cons dt_int (da_cons dt_int (da_cons dt_int (da_cons (dt_var rfl) da_nil))))))
end
end K33
end
section
set_option Elab.async false
set_option linter.all false
set_option maxRecDepth 100000
set_option maxHeartbeats 4000000
namespace K33
open PySem PySem.Spec PyProof.Rows L2 DL
theorem flatMap_on {α β : Type} {f g : α → List β} : ∀ {l : List α}, (∀ x ∈ l, f x = g x) → l.flatMap f = l.flatMap g
  | [], _ => rfl
  | x :: l, h => by
    rw [List.flatMap_cons, List.flatMap_cons, h x List.mem_cons_self, flatMap_on fun y hy => h y (List.mem_cons_of_mem _ hy)]
section
variable {P : Program} {w : World} {K : PySem.W.Frag} {mg : Str → Option Value} {base : Heap} {k : Nat}
end
end K33
end
section
set_option Elab.async false
set_option linter.all false
set_option maxRecDepth 100000
set_option maxHeartbeats 4000000
namespace K33
open PySem PySem.Spec PyProof.Rows L2 DL
theorem flat_few {α β : Type} (f : α → List β) (b : Nat) : ∀ l : List α, (∀ x ∈ l, (f x).length ≤ b) → (l.flatMap f).length ≤ l.length * b
  | [], _ => Nat.zero_le _
  | x :: l, h => by
    have h1 := h x List.mem_cons_self
    have h2 := flat_few f b l fun y hy => h y (List.mem_cons_of_mem _ hy)
    rw [List.flatMap_cons, List.length_append, List.length_cons, Nat.succ_mul]
    omega
section
variable {P : Program} {w : World} {K : PySem.W.Frag} {mg : Str → Option Value} {base : Heap} {k : Nat}
end
end K33
end
section
set_option Elab.async false
set_option linter.all false
set_option maxRecDepth 100000
set_option maxHeartbeats 4000000
namespace K33
open PySem PySem.Spec PyProof.Rows L2 DL
theorem mv_len {M : MapD} {s : StD} (hM : M.Ok) (hS : s.Ok M) : (M.mv s).length ≤ 1000 := by
  have h := flat_few (fun i : Nat => (M.lead s.p).map fun r => (i, r)) 7 (List.range (M.most s + 1).toNat) fun i _ => by
    rw [List.length_map]
    exact Nat.le_trans (lead_len M s.p) hM.r7
  have b := (most_bd (inR hM hS)).2
  rw [List.length_range] at h
  show (List.flatMap _ _).length ≤ 1000
  omega
section
variable {P : Program} {w : World} {K : PySem.W.Frag} {mg : Str → Option Value} {base : Heap} {k : Nat}
end
end K33
end
section
set_option Elab.async false
set_option linter.all false
set_option maxRecDepth 100000
set_option maxHeartbeats 4000000
namespace K33
open PySem PySem.Spec PyProof.Rows L2 DL
section
variable {P : Program} {w : World} {K : PySem.W.Frag} {mg : Str → Option Value} {base : Heap} {k : Nat}
theorem ok_check_lateness (T : Txt K mg) : FnOk P w K mg base CX0 3 T.a_check_lateness T.fd_check_lateness ["late"] (spP K 1 (isNone fun ds => ∃ l : Int, ds = [.int l] ∧ 0 ≤ l ∧ l ≤ 4)) := by
  refine fnP T.F_check_lateness sc_check_lateness rfl (fun cdv A outer s H E hr => ?_)
  refine ⟨_, (pss_one (ps_if (pt_not (pt_val (pe_call (ok_is_between T) (hr.mono (by decide)) (by rfl) T.g_is_between T.F_is_between.kp T.b_is_between .nil pass0 (pa_cons (pv 0) (pa_cons pe_int (pa_cons (pe_globI (by rfl) T.k_MOST_LATE) pa_nil)))))) (pss_one ps_never) pss_nil)), ?_⟩
  rintro ds d ⟨⟨l, rfl, h0, h4⟩, rfl⟩ -
  exact .nx (ds_if_f (db_nt (dt_call (da_cons (dt_var rfl) (da_cons dt_int (da_cons dt_int da_nil))) ⟨l, 0, 4, rfl, bt h0 h4⟩)) ds_next)
end
end K33
end
section
set_option Elab.async false
set_option linter.all false
set_option maxRecDepth 100000
set_option maxHeartbeats 4000000
namespace K33
open PySem PySem.Spec PyProof.Rows L2 DL
/-! ### the law's own moves, results and news -/
section
variable {P : Program} {w : World} {K : PySem.W.Frag} {mg : Str → Option Value} {base : Heap} {k : Nat}
def R_movesN (ds : List D) (d : D) : Prop := ∃ (M : MapD) (s : StD), ds = [netD M, stD s] ∧ M.Ok ∧ s.Ok M ∧ d = .lst ((M.mv s).map fun m => mvD m.1 m.2)
theorem ok__law_moves (T : Txt K mg) : FnOk P w K mg base CX0 2 T.a__law_moves T.fd__law_moves ["_law_net_here", "_law_state_here"] (spP K 2 R_movesN) := by
  refine fnP T.F__law_moves sc__law_moves rfl (fun cdv A outer s H E hr => ?_)
  refine ⟨_, (pss_cons (ps_par (i := 2) (j := 3) (by rfl) sc__law_moves.nd rfl rfl (by decide) rfl rfl (pa_cons (pe_lst pa_nil) (pa_cons (pe_op op_sub (pe_ix (ixT K) (pe_ix (ixT K) (pv 0) pe_int (fun _ _ => rfl)) pe_int (fun _ _ => rfl)) (pe_ix (ixT K) (pv 1) pe_int (fun _ _ => rfl))) pa_nil)) (by rfl))
  (pss_cons (ps_if (pt_cmp (pc_isN (pe_ix (ixT K) (pe_ix (ixT K) (pv 0) pe_int (fun _ _ => rfl)) (pe_ix (ixT K) (pv 1) pe_int (fun _ _ => rfl)) (fun _ _ => rfl)))) (pss_one (ps_set (i := 3) sc__law_moves.nd rfl (.inl rfl) pe_int)) pss_nil)
  (pss_cons (ps_for PassesOwn.never rfl (pi_range1 (by rfl) T.n_range (pa_cons (pe_op op_add (pv 3) pe_int) pa_nil)) (pg_name (i := 4) sc__law_moves.nd rfl (.inr rfl)) (pss_one (ps_set (i := 2) sc__law_moves.nd rfl (.inl rfl) (pe_op op_cat (pv 2) (pe_lc (own := [("_law_road", 5)]) rfl sc__law_moves.nd (piList K (pe_call (ok__law_roads T) (hr.mono (by decide)) (by rfl) T.g__law_roads T.F__law_roads.kp T.b__law_roads .nil pass0 (pa_cons (pv 0) (pa_cons (pe_ix (ixT K) (pv 1) pe_int (fun _ _ => rfl)) pa_nil)))) (blkOk_by (own := [("_law_road", 5)]) (N := ["_law_net_here", "_law_state_here", "_law_found", "_law_most", "_law_pieces", "_law_road"]) (sc := defScope s__law_moves) (by decide +kernel)) (fun _ _ _ _ _ => (pg_name (i := 5) sc__law_moves.nd rfl (.inl rfl))) (fun _ _ _ _ _ => pts_nil) (fun _ _ _ _ _ => (pe_tup (pa_cons (pv 4) (pa_cons (pv 5) pa_nil)))))))))
  (pss_one (ps_ret (pv 2)))))), ?_⟩
  rintro ds d ⟨M, s, rfl, hM, hS, rfl⟩ -
  have p0 := hS.p0
  have p1 := hS.p1
  have pl := hM.pl
  have m6 := hM.m6
  have i0 := hS.i0
  have i1 := hS.i1
  let g : Int → List D → Sl := fun most ds => [some (.dat (netD M)), some (.dat (stD s)), some (.dat (.rls ds)), some (.dat (.int most)), none, none]
  let row : Nat → List D := fun i => (M.lead s.p).map (mvD i)
  let acc : Nat → List D := fun i => (List.range i).flatMap row
  have price : DT K _ (g (M.room - s.i) []) [] (.dat (optD (M.price s.p))) [] := netPrice (te := tVar 0) (ta := tOp (rIxT K) (tVar 1) (tC (.int 0))) (dt_var (i := 0) rfl) (dt_ixT (dt_var (i := 1) rfl) dt_int rfl) p0 (by omega)
  refine .rt (ds_seq (ss1 := g (M.room - s.i) []) (m1 := []) (ds_parV (dav_cons (dt_tlR (dt_lstT da_nil)) (dav_cons (dt_i0 (g := fun i j => i - j) (net30 (dt_var (i := 0) rfl)) (dt_ixT (dt_var (i := 1) rfl) dt_int rfl)) dav_nil))) (ds_seq (ss1 := g (M.most s) []) (m1 := []) ?_ ?_))
  · unfold MapD.most
    cases q : M.price s.p with
    | none =>
      rw [q] at price
      rw [if_pos rfl]
      exact ds_if_t (db_b (dt_isN (d := .non) price)) (ds_set (i := 3) dt_int)
    | some v =>
      rw [q] at price
      rw [if_neg (fun z => nomatch z)]
      exact ds_if_f (db_b (dt_isN (d := .int v) price)) ds_next
  · have mb := (most_bd (inR hM hS))
    have n0 : 0 ≤ M.most s + 1 := by
      have := mb.1
      omega
    have few : (acc (M.most s + 1).toNat).length ≤ 1000 := by
      have z := mv_len hM hS
      have e : (acc (M.most s + 1).toNat).length = (M.mv s).length := by
        show ((List.range (M.most s + 1).toNat).flatMap row).length = ((List.range (M.most s + 1).toNat).flatMap fun i => (M.lead s.p).map fun r => (i, r)).length
        rw [List.length_flatMap, List.length_flatMap]
        refine congrArg List.sum (List.map_congr_left fun i _ => ?_)
        show ((M.lead s.p).map (mvD i)).length = _
        rw [List.length_map, List.length_map]
      omega
    have up : ∀ i, i ≤ (M.most s + 1).toNat → (acc i).length ≤ 1000 := fun i hi => by
      have z := flat_few row 7 (List.range i) fun j _ => by
        show ((M.lead s.p).map (mvD j)).length ≤ 7
        rw [List.length_map]
        exact Nat.le_trans (lead_len M s.p) hM.r7
      rw [List.length_range] at z
      show ((List.range i).flatMap row).length ≤ 1000
      have := mb.2
      omega
    refine ds_seq (ss1 := g (M.most s) (acc (M.most s + 1).toNat)) (m1 := []) (ds_forP [4, 5] (fun i => g (M.most s) (acc i)) rfl (di_rng1 (j := M.most s + 1) (da_cons (dt_i0 (g := fun i j => i + j) (dt_var (i := 3) rfl) dt_int) da_nil) (by omega) (by have := mb.2; omega)) fun i hi => ?_) ?_
    · have nx : acc (i + 1) = acc i ++ row i := by
        show (List.range (i + 1)).flatMap row = (List.range i).flatMap row ++ row i
        rw [List.range_succ, List.flatMap_append]
        simp
      have al := up i (by omega)
      have rl : (row i).length ≤ 7 := by
        show ((M.lead s.p).map (mvD i)).length ≤ 7
        rw [List.length_map]
        exact Nat.le_trans (lead_len M s.p) hM.r7
      refine ⟨(g (M.most s) (acc (i + 1))).set 4 (some (.dat (.int (0 + (i : Nat))))), ?_, rfl⟩
      rw [nx]
      refine ds_set (i := 2) (dt_tlR (dt_catR (dt_var (i := 2) rfl) (dt_lcLT (fun i : Nat => D.int (i : Nat)) 0 (M.lead s.p) (dt_call (R := R_roadsN) (E := E0) (da_cons (dt_var (i := 0) rfl) (da_cons (dt_ixT (dt_var (i := 1) rfl) dt_int rfl) da_nil)) ⟨M, s.p, rfl, hM.r7, rfl⟩) (by have := lead_len M s.p; have := hM.r7; omega) (mvD i) fun r hr' => ?_) (by omega)))
      have e0 : mvD i r = .tup [.int (0 + (i : Nat)), .int (r : Nat)] := by rw [Int.zero_add]; rfl
      rw [e0]
      exact dt_tup (da_cons (dt_var (i := 4) rfl) (da_cons (dt_var (i := 5) rfl) da_nil))
    · have e : (M.mv s).map (fun m => mvD m.1 m.2) = acc (M.most s + 1).toNat := by
        show ((List.range (M.most s + 1).toNat).flatMap fun i => (M.lead s.p).map fun r => (i, r)).map _ = (List.range (M.most s + 1).toNat).flatMap row
        rw [List.map_flatMap]
        refine flatMap_on fun i _ => ?_
        rw [List.map_map]
        rfl
      rw [e]
      exact ds_ret (dt_rls (dt_var (i := 2) rfl))
end
end K33
end
section
set_option Elab.async false
set_option linter.all false
set_option maxRecDepth 100000
set_option maxHeartbeats 4000000
namespace K33
open PySem PySem.Spec PyProof.Rows L2 DL
/-! ### pairs, and what follows them -/
structure Pr where
  p : Nat
  r : Nat
  m : Nat
def prD (x : Pr) : D := .tup [mvD x.p x.r, .int (x.m : Nat)]
def stepS (M : MapD) (s : StD) (x : Pr) : Option StD := endS M (M.road x.r) s.l (hours (M.road x.r).m (s.i + x.p, s.w) ((M.road x.r).h.toNat + x.m)) x.m
/-- the pair is possible in s -/
structure CanP (M : MapD) (s : StD) (x : Pr) : Prop where
  mv : (x.p, x.r) ∈ M.mv s
  late : (x.m : Int) ≤ s.l
theorem CanP.at_ {M : MapD} {s : StD} {x : Pr} (c : CanP M s x) : (M.endsS s x.p x.r)[x.m]? = some (stepS M s x) := by
  have h := c.late
  unfold MapD.endsS
  rw [List.getElem?_map, List.getElem?_range (show x.m < (s.l + 1).toNat by omega)]
  rfl
theorem step_ok {M : MapD} {s t : StD} {x : Pr} (hM : M.Ok) (hS : s.Ok M) (c : CanP M s x) (e : stepS M s x = some t) : t.Ok M := ends_ok hM hS c.mv (by
  have z := c.at_
  rw [e] at z
  exact List.mem_of_getElem? z)
/-- the states behind each pair; the last one; none can stand at the end alone -/
def walkS (M : MapD) : Option StD → List Pr → List (Option StD)
  | _, [] => []
  | none, _ :: _ => []
  | some s, x :: l => stepS M s x :: walkS M (stepS M s x) l
def lastS (M : MapD) : Option StD → List Pr → Option StD
  | o, [] => o
  | none, _ :: _ => none
  | some s, x :: l => lastS M (stepS M s x) l
def Trip (M : MapD) : Option StD → List Pr → Prop
  | _, [] => True
  | none, _ :: _ => False
  | some s, x :: l => CanP M s x ∧ Trip M (stepS M s x) l
theorem trip_snoc {M : MapD} {x : Pr} : ∀ {l : List Pr} {o : Option StD}, Trip M o (l ++ [x]) ↔ Trip M o l ∧ ∃ s, lastS M o l = some s ∧ CanP M s x
  | [], none => ⟨fun h => h.elim, fun ⟨_, _, h, _⟩ => nomatch h⟩
  | [], some s => ⟨fun h => ⟨trivial, s, rfl, h.1⟩, fun ⟨_, t, h, c⟩ => by cases h; exact ⟨c, trivial⟩⟩
  | y :: l, none => ⟨fun h => h.elim, fun h => h.1.elim⟩
  | y :: l, some s => by
    show (CanP M s y ∧ Trip M (stepS M s y) (l ++ [x])) ↔ (CanP M s y ∧ Trip M (stepS M s y) l) ∧ ∃ t, lastS M (stepS M s y) l = some t ∧ CanP M t x
    rw [trip_snoc (l := l)]
    exact ⟨fun ⟨a, b, c⟩ => ⟨⟨a, b⟩, c⟩, fun ⟨⟨a, b⟩, c⟩ => ⟨a, b, c⟩⟩
theorem last_snoc {M : MapD} {x : Pr} : ∀ {l : List Pr} {o : Option StD} {s : StD}, lastS M o l = some s → lastS M o (l ++ [x]) = stepS M s x
  | [], o, s, h => by
    have h : o = some s := h
    subst h
    rfl
  | y :: l, none, s, h => nomatch h
  | y :: l, some t, s, h => last_snoc (l := l) (o := stepS M t y) h
theorem walk_snoc {M : MapD} {x : Pr} : ∀ {l : List Pr} {o : Option StD} {s : StD}, lastS M o l = some s → walkS M o (l ++ [x]) = walkS M o l ++ [stepS M s x]
  | [], o, s, h => by
    have h : o = some s := h
    subst h
    rfl
  | y :: l, none, s, h => nomatch h
  | y :: l, some t, s, h => congrArg (stepS M t y :: ·) (walk_snoc (l := l) (o := stepS M t y) h)
theorem walk_len {M : MapD} : ∀ {l : List Pr} {o : Option StD}, Trip M o l → (walkS M o l).length = l.length
  | [], o, _ => by cases o <;> rfl
  | y :: l, none, h => h.elim
  | y :: l, some t, h => congrArg (· + 1) (walk_len (l := l) h.2)
theorem walk_nil (M : MapD) (o : Option StD) : walkS M o [] = [] := by cases o <;> rfl
/-- all states from the first on -/
def statesS (M : MapD) (s : StD) (l : List Pr) : List (Option StD) := some s :: walkS M (some s) l
theorem states_last {M : MapD} : ∀ {l : List Pr} {o : Option StD}, Trip M o l → (o :: walkS M o l).getLast? = some (lastS M o l)
  | [], o, _ => by cases o <;> rfl
  | y :: l, none, h => h.elim
  | y :: l, some t, h => by
    show (some t :: stepS M t y :: walkS M (stepS M t y) l).getLast? = _
    rw [List.getLast?_cons_cons]
    exact states_last (l := l) h.2
theorem take_one {α : Type} {l : List α} {i : Nat} (h : i < l.length) : l.take (i + 1) = l.take i ++ [l[i]] := by simp
theorem trip_take {M : MapD} {o : Option StD} {l : List Pr} (h : Trip M o l) : ∀ k, k ≤ l.length → Trip M o (l.take (l.length - k))
  | 0, _ => by rw [Nat.sub_zero, List.take_length]; exact h
  | k + 1, hk => by
    have z := trip_take h k (by omega)
    have e : l.length - k = l.length - (k + 1) + 1 := by omega
    rw [e, take_one (by omega)] at z
    exact (trip_snoc.mp z).1
theorem trip_pre {M : MapD} {o : Option StD} {l : List Pr} (h : Trip M o l) (i : Nat) (hi : i ≤ l.length) : Trip M o (l.take i) := by
  have z := trip_take h (l.length - i) (by omega)
  rwa [show l.length - (l.length - i) = i by omega] at z
/-- at each pair there is a state -/
theorem trip_at {M : MapD} {o : Option StD} {l : List Pr} (h : Trip M o l) {i : Nat} (hi : i < l.length) : ∃ s, lastS M o (l.take i) = some s ∧ CanP M s l[i] := by
  have z := trip_pre h (i + 1) (by omega)
  rw [take_one hi] at z
  exact (trip_snoc.mp z).2
theorem last_ok {M : MapD} (hM : M.Ok) : ∀ {l : List Pr} {o : Option StD} {s : StD}, (∀ t, o = some t → t.Ok M) → Trip M o l → lastS M o l = some s → s.Ok M
  | [], o, s, h, _, e => h s e
  | y :: l, none, s, _, t, _ => t.elim
  | y :: l, some t, s, h, tr, e => last_ok hM (l := l) (fun u eu => step_ok hM (h t rfl) tr.1 eu) tr.2 e
theorem states_get {M : MapD} : ∀ {l : List Pr} {o : Option StD} {i : Nat}, Trip M o l → i ≤ l.length → (o :: walkS M o l)[i]? = some (lastS M o (l.take i))
  | l, o, 0, _, _ => by cases o <;> cases l <;> rfl
  | [], o, i + 1, _, h => by simp at h
  | y :: l, none, i + 1, t, _ => t.elim
  | y :: l, some s, i + 1, t, h => by
    show (stepS M s y :: walkS M (stepS M s y) l)[i]? = some (lastS M (stepS M s y) (l.take i))
    exact states_get t.2 (by simpa using h)
section
variable {K : PySem.W.Frag} {ss ss1 : Sl} {mem m1 m2 : List Mc} {tt : TT} {t u : TS} {out : Out} {b : Bool}
theorem ds_guard' (h : DB K tt ss mem false m1) (g : DS K u ss m1 out) : DS K (tSeq (tIfS tt t tNext) u) ss mem out := ds_seq (ds_if_f h ds_next) g
theorem db_nt' {te : TE} (h : DT K te ss mem (.dat (.bl true)) m1) : DB K (tNot (tTest te)) ss mem false m1 := db_not (b := true) (db_test h)
theorem db_ntB {te : TE} (h : DT K te ss mem (.dat (.bl true)) m1) : DB K (tNot (tB te)) ss mem false m1 := db_not (b := true) (db_b h)
end
theorem bt' {i lo hi : Int} (h : lo ≤ i) (g : i ≤ hi) : D.bl true = .bl (decide (lo ≤ i) && decide (i ≤ hi)) := by rw [decide_eq_true h, decide_eq_true g]; rfl
theorem mvD_in {M : MapD} {s : StD} {p r : Nat} (h : (p, r) ∈ M.mv s) : mvD p r ∈ M.moves s := by
  rw [moves_eq]
  exact List.mem_map.mpr ⟨(p, r), h, rfl⟩
section
variable {P : Program} {w : World} {K : PySem.W.Frag} {mg : Str → Option Value} {base : Heap} {k : Nat}
def R_state_after (C : Addr) (ds : List D) (d : D) : Prop := ∃ M s x, ds = [mapD C M, stD s, prD x] ∧ M.Ok ∧ s.Ok M ∧ CanP M s x ∧ d = stO (stepS M s x)
theorem ok_state_after (T : Txt K mg) : FnOk P w K mg base CX0 7 T.a_state_after T.fd_state_after ["chart", "state", "pair"] (spP K 3 (R_state_after T.C_Map)) := by
  refine fnP T.F_state_after sc_state_after rfl (fun cdv A outer s H E hr => ?_)
  refine ⟨_, (pss_cons (ps_if (PW.pt (pw_or (pt_cmp (pc_isN (pv 1))) (pw_or1 (pt_not (pt_val (pe_call (ok_is_group T) (hr.mono (by decide)) (by rfl) T.g_is_group T.F_is_group.kp T.b_is_group .nil pass0 (pa_cons (pv 2) (pa_cons pe_int pa_nil)))))))) (pss_one (ps_ret pe_non)) pss_nil)
  (pss_cons (ps_asg (pv 2) (pgTup K 2 (pgs_cons (pg_name (i := 3) sc_state_after.nd rfl (.inl rfl)) (pgs_cons (pg_name (i := 4) sc_state_after.nd rfl (.inl rfl)) pgs_nil))))
  (pss_cons (ps_if (PW.pt (pw_or (pt_not (pt_val (pe_call (ok_is_move T) (hr.mono (by decide)) (by rfl) T.g_is_move T.F_is_move.kp T.b_is_move .nil pass0 (pa_cons (pv 0) (pa_cons (pv 1) (pa_cons (pv 3) pa_nil)))))) (pw_or1 (pt_not (pt_val (pe_call (ok_is_between T) (hr.mono (by decide)) (by rfl) T.g_is_between T.F_is_between.kp T.b_is_between .nil pass0 (pa_cons (pv 4) (pa_cons pe_int (pa_cons (pe_ix (ixT K) (pv 1) pe_int (fun _ _ => rfl)) pa_nil))))))))) (pss_one (ps_ret pe_non)) pss_nil)
  (pss_one (ps_ret (pe_ix (ixL K) (pe_call (ok_move_results T) (hr.mono (by decide)) (by rfl) T.g_move_results T.F_move_results.kp T.b_move_results .nil pass0 (pa_cons (pv 0) (pa_cons (pv 1) (pa_cons (pv 3) pa_nil)))) (pv 4) (fun _ _ => rfl))))))), ?_⟩
  rintro ds d ⟨M, s, x, rfl, hM, hS, c, rfl⟩ -
  have inr_ := inR hM hS
  have inm := inM hM hS c.mv
  let s2 : Sl := [some (.dat (mapD T.C_Map M)), some (.dat (stD s)), some (.dat (prD x)), none, none]
  refine .rt (ds_guard' (m1 := []) (db_or_f (m1 := []) (db_b (dt_isN (d := stD s) (dt_var (i := 1) rfl))) (db_nt' (dt_call (da_cons (dt_var (i := 2) rfl) (da_cons dt_int da_nil)) ⟨[mvD x.p x.r, .int (x.m : Nat)], 2, rfl, rfl⟩))) ?_)
  refine ds_seq (ss1 := [some (.dat (mapD T.C_Map M)), some (.dat (stD s)), some (.dat (prD x)), some (.dat (mvD x.p x.r)), some (.dat (.int (x.m : Nat)))]) (m1 := []) (ds_asg (dt_var (i := 2) rfl) (dg_tup (dgs_cons dg_name (dgs_cons dg_name dgs_nil)) rfl)) ?_
  refine ds_guard' (m1 := []) (db_or_f (m1 := []) (db_nt' (dt_call (da_cons (dt_var (i := 0) rfl) (da_cons (dt_var (i := 1) rfl) (da_cons (dt_var (i := 3) rfl) da_nil))) ⟨⟨M, s, x.p, x.r, rfl, inr_, mvD_in c.mv⟩, rfl⟩)) (db_nt' (dt_call (da_cons (dt_var (i := 4) rfl) (da_cons dt_int (da_cons (dt_ixT (dt_var (i := 1) rfl) dt_int rfl) da_nil))) ⟨x.m, 0, s.l, rfl, bt' (by omega) c.late⟩))) ?_
  refine ds_ret (dt_ixL (dt_call (da_cons (dt_var (i := 0) rfl) (da_cons (dt_var (i := 1) rfl) (da_cons (dt_var (i := 3) rfl) da_nil))) ⟨M, s, x.p, x.r, rfl, inm, rfl⟩) (dt_var (i := 4) rfl) ?_)
  rw [ends_eq]
  unfold L2.atI
  have lt : x.m < ((M.endsS s x.p x.r).map stO).length := by
    rw [List.length_map]
    exact (List.getElem?_eq_some_iff.mp c.at_).1
  rw [show ixN ((M.endsS s x.p x.r).map stO).length (x.m : Nat) = some x.m by
    rw [List.length_map] at lt ⊢
    unfold ixN
    simp [lt]]
  rw [Option.bind_some, List.getElem?_map, c.at_]
  rfl
end
end K33
end
section
set_option Elab.async false
set_option linter.all false
set_option maxRecDepth 100000
set_option maxHeartbeats 4000000
namespace K33
open PySem PySem.Spec PyProof.Rows L2 DL
/-! ### logs -/
theorem nth_in {α : Type} (f : α → D) (z : α) {l : List α} {i : Nat} (h : i < l.length) : nthD (l.map f) i = f l[i] := by
  unfold nthD
  rw [List.getD_eq_getElem?_getD, List.getElem?_map, List.getElem?_eq_getElem h]
  rfl
/-- a log: each pair can be made, and nothing spoils -/
structure LogOk (M : MapD) (s : StD) (l : List Pr) : Prop where
  map : M.Ok
  st : s.Ok M
  trip : Trip M (some s) l
  few : l.length ≤ 12
  fine : ∃ t, lastS M (some s) l = some t
theorem LogOk.at_ {M : MapD} {s : StD} {l : List Pr} (h : LogOk M s l) {i : Nat} (hi : i ≤ l.length) : ∃ t, lastS M (some s) (l.take i) = some t ∧ t.Ok M := by
  have pre := trip_pre h.trip i hi
  rcases Nat.lt_or_ge i l.length with lt | ge
  · obtain ⟨t, e, -⟩ := trip_at h.trip lt
    exact ⟨t, e, last_ok h.map (fun u eu => by cases eu; exact h.st) pre e⟩
  · have ei : i = l.length := by omega
    subst ei
    rw [List.take_length] at pre ⊢
    obtain ⟨t, e⟩ := h.fine
    exact ⟨t, e, last_ok h.map (fun u eu => by cases eu; exact h.st) pre e⟩
/-- a state of a log -/
def atS (M : MapD) (s : StD) (l : List Pr) (i : Nat) : StD := (lastS M (some s) (l.take i)).getD s
theorem LogOk.st_at {M : MapD} {s : StD} {l : List Pr} (h : LogOk M s l) {i : Nat} (hi : i ≤ l.length) : lastS M (some s) (l.take i) = some (atS M s l i) ∧ (atS M s l i).Ok M := by
  obtain ⟨t, e, ok⟩ := h.at_ hi
  unfold atS
  rw [e]
  exact ⟨rfl, ok⟩
theorem LogOk.can {M : MapD} {s : StD} {l : List Pr} (h : LogOk M s l) {i : Nat} (hi : i < l.length) : CanP M (atS M s l i) l[i] ∧ stepS M (atS M s l i) l[i] = some (atS M s l (i + 1)) := by
  obtain ⟨t, e, c⟩ := trip_at h.trip hi
  have e1 := (h.st_at (i := i) (by omega)).1
  rw [e] at e1
  cases e1
  refine ⟨c, ?_⟩
  have e2 := (h.st_at (i := i + 1) (by omega)).1
  rw [take_one hi, last_snoc e] at e2
  exact e2
section
variable {P : Program} {w : World} {K : PySem.W.Frag} {mg : Str → Option Value} {base : Heap} {k : Nat}
def R_afterL (C : Addr) (ds : List D) (d : D) : Prop := ∃ M s l, ds = [mapD C M, stD s, .lst (l.map prD)] ∧ LogOk M s l ∧ d = .rls ((walkS M (some s) l).map stO)
def R_afterT (C : Addr) (ds : List D) (d : D) : Prop := ∃ M s l, ds = [mapD C M, stD s, .tup (l.map prD)] ∧ LogOk M s l ∧ d = .rls ((walkS M (some s) l).map stO)
theorem ok_states_after (T : Txt K mg) : FnOk P w K mg base CX0 8 T.a_states_after T.fd_states_after ["chart", "state", "log"] (spP K 3 (R_afterL T.C_Map)) := by
  refine fnP T.F_states_after sc_states_after rfl (fun cdv A outer s H E hr => ?_)
  refine ⟨_, (pss_cons (ps_if (PW.pt (pw_or (pt_not (pt_val (pe_callB (callIsiT K) (by rfl) T.n_isinstance (by decide +kernel) (pa_cons (pv 2) (pa_cons (pe_tup (pa_cons (pe_bltn (v := .ty "list") (by rfl) T.n_list (by decide +kernel) rfl) (pa_cons (pe_bltn (v := .ty "tuple") (by rfl) T.n_tuple (by decide +kernel) rfl) pa_nil))) pa_nil))))) (pw_or1 (pt_cmpR op_gt (pe_callB (callLen K) (by rfl) T.n_len PySem.boot_len (pa_cons (pv 2) pa_nil)) (pe_globI (by rfl) T.k_MOST_PAIRS) (nomark _))))) (pss_one ps_never) pss_nil)
  (pss_cons (ps_set (i := 3) sc_states_after.nd rfl (.inl rfl) (pe_lst pa_nil))
  (pss_cons (ps_for PassesOwn.never rfl (piEnumL K (by rfl) T.n_enumerate (pa_cons (pv 2) pa_nil)) (pgTup K 2 (pgs_cons (pg_name (i := 4) sc_states_after.nd rfl (.inl rfl)) (pgs_cons (pg_name (i := 5) sc_states_after.nd rfl (.inl rfl)) pgs_nil))) (pss_cons (ps_set (i := 1) sc_states_after.nd rfl (.inl rfl) (pe_call (ok_state_after T) (hr.mono (by decide)) (by rfl) T.g_state_after T.F_state_after.kp T.b_state_after .nil pass0 (pa_cons (pv 0) (pa_cons (pv 1) (pa_cons (pv 5) pa_nil)))))
  (pss_cons (ps_if (pt_cmp (pc_isN (pv 1))) (pss_one ps_never) pss_nil)
  (pss_one (ps_expr (pe_bm PySem.F.plainAttrs_list PySem.F.slot_list_append PySem.F.type_list_append mt_append (pv 3) (pa_cons (pv 1) pa_nil)))))))
  (pss_one (ps_ret (pv 3)))))), ?_⟩
  rintro ds d ⟨M, s, l, rfl, h, rfl⟩ -
  let lg : D := .lst (l.map prD)
  have ln : (l.map prD).length = l.length := List.length_map ..
  have few := h.few
  let f : Nat → Sl := fun i => [some (.dat (mapD T.C_Map M)), some (.dat (stD (atS M s l i))), some (.dat lg), some (.own 0), none, none]
  let acc : Nat → List D := fun i => (walkS M (some s) (l.take i)).map stO
  refine ⟨[.gone], .inl (ds_guard' (m1 := []) (db_or_f (m1 := []) (db_nt' (dt_isiLT (dt_var (i := 2) rfl) rfl (by decide))) (db_is (db_test (dt_i0b (g := fun a b => decide (a > b)) (dt_lenL (dt_var (i := 2) rfl)) dt_int)) (decide_eq_false (by rw [ln]; omega)))) ?_)⟩
  refine ds_seq (ss1 := f 0) (m1 := [.lst []]) (ds_set (i := 3) (dt_lstO da_nil)) ?_
  refine ds_seq (ss1 := f (l.map prD).length) (m1 := [.lst (acc (l.map prD).length)]) (ds_forG [4, 5] f (fun i => [.lst (acc i)]) rfl (by
    have z := di_enumL (K := K) (ss := f 0) (mem := [.lst []]) (dt_var (i := 2) rfl)
    have e0 : acc 0 = [] := by
      show (walkS M (some s) (l.take 0)).map stO = []
      rw [List.take_zero, walk_nil]
      rfl
    show DI K _ _ _ _ _ [.lst (acc 0)]
    rw [e0]
    exact z) (fun _ => rfl) (fun _ => rfl) fun i hi => ?_) ?_
  · have hi : i < l.length := by omega
    obtain ⟨c, st⟩ := h.can hi
    obtain ⟨e1, ok1⟩ := h.st_at (i := i) (by omega)
    rw [nth_in prD ⟨0, 0, 0⟩ hi]
    let f2 : Sl := [some (.dat (mapD T.C_Map M)), some (.dat (stD (atS M s l i))), some (.dat lg), some (.own 0), some (.dat (.int (i : Nat))), some (.dat (prD l[i]))]
    have grow : acc (i + 1) = acc i ++ [stD (atS M s l (i + 1))] := by
      show (walkS M (some s) (l.take (i + 1))).map stO = (walkS M (some s) (l.take i)).map stO ++ _
      rw [take_one hi, walk_snoc e1, List.map_append, st]
      rfl
    have few2 : (acc i).length < 16777216 := by
      show ((walkS M (some s) (l.take i)).map stO).length < _
      rw [List.length_map, walk_len (trip_pre h.trip i (by omega)), List.length_take]
      omega
    have call := dt_call (K := K) (ss := f2) (mem := [.lst (acc i)]) (m1 := [.lst (acc i)]) (R := R_state_after T.C_Map) (n := 3) (E := E0) (da_cons (dt_var (i := 0) rfl) (da_cons (dt_var (i := 1) rfl) (da_cons (dt_var (i := 5) rfl) da_nil))) ⟨M, atS M s l i, l[i], rfl, h.map, ok1, c, rfl⟩
    rw [st] at call
    refine ⟨f2, _, f2.set 1 (some (.dat (stD (atS M s l (i + 1))))), [], dg_tup (dgs_cons dg_name (dgs_cons dg_name dgs_nil)) rfl, ?_, rfl⟩
    refine ds_seq (ss1 := f2.set 1 (some (.dat (stD (atS M s l (i + 1)))))) (m1 := [.lst (acc i)]) (ds_set (i := 1) call) (ds_seq (m1 := [.lst (acc i)]) (ds_if_f (db_b (dt_isN (d := stD (atS M s l (i + 1))) (dt_var (i := 1) rfl))) ds_next) (ds_drop (r := .dat .non) ?_))
    rw [grow]
    exact dt_append (n := 0) (ds := acc i) (m1 := [.lst (acc i)]) (m2 := [.lst (acc i)]) (dt_var (i := 3) rfl) (da_cons (dt_var (i := 1) rfl) da_nil) rfl rfl few2
  · have e : acc (l.map prD).length = (walkS M (some s) l).map stO := by
      show (walkS M (some s) (l.take (l.map prD).length)).map stO = _
      rw [ln, List.take_length]
    rw [e]
    exact ds_ret (dt_frzR (n := 0) (m1 := [.lst ((walkS M (some s) l).map stO)]) (dt_var (i := 3) rfl) rfl)
theorem ok_states_afterT (T : Txt K mg) : FnOk P w K mg base CX0 8 T.a_states_after T.fd_states_after ["chart", "state", "log"] (spP K 3 (R_afterT T.C_Map)) := by
  refine fnP T.F_states_after sc_states_after rfl (fun cdv A outer s H E hr => ?_)
  refine ⟨_, (pss_cons (ps_if (PW.pt (pw_or (pt_not (pt_val (pe_callB (callIsiT K) (by rfl) T.n_isinstance (by decide +kernel) (pa_cons (pv 2) (pa_cons (pe_tup (pa_cons (pe_bltn (v := .ty "list") (by rfl) T.n_list (by decide +kernel) rfl) (pa_cons (pe_bltn (v := .ty "tuple") (by rfl) T.n_tuple (by decide +kernel) rfl) pa_nil))) pa_nil))))) (pw_or1 (pt_cmpR op_gt (pe_callB (callLen K) (by rfl) T.n_len PySem.boot_len (pa_cons (pv 2) pa_nil)) (pe_globI (by rfl) T.k_MOST_PAIRS) (nomark _))))) (pss_one ps_never) pss_nil)
  (pss_cons (ps_set (i := 3) sc_states_after.nd rfl (.inl rfl) (pe_lst pa_nil))
  (pss_cons (ps_for PassesOwn.never rfl (piEnumT K (by rfl) T.n_enumerate (pa_cons (pv 2) pa_nil)) (pgTup K 2 (pgs_cons (pg_name (i := 4) sc_states_after.nd rfl (.inl rfl)) (pgs_cons (pg_name (i := 5) sc_states_after.nd rfl (.inl rfl)) pgs_nil))) (pss_cons (ps_set (i := 1) sc_states_after.nd rfl (.inl rfl) (pe_call (ok_state_after T) (hr.mono (by decide)) (by rfl) T.g_state_after T.F_state_after.kp T.b_state_after .nil pass0 (pa_cons (pv 0) (pa_cons (pv 1) (pa_cons (pv 5) pa_nil)))))
  (pss_cons (ps_if (pt_cmp (pc_isN (pv 1))) (pss_one ps_never) pss_nil)
  (pss_one (ps_expr (pe_bm PySem.F.plainAttrs_list PySem.F.slot_list_append PySem.F.type_list_append mt_append (pv 3) (pa_cons (pv 1) pa_nil)))))))
  (pss_one (ps_ret (pv 3)))))), ?_⟩
  rintro ds d ⟨M, s, l, rfl, h, rfl⟩ -
  let lg : D := .tup (l.map prD)
  have ln : (l.map prD).length = l.length := List.length_map ..
  have few := h.few
  let f : Nat → Sl := fun i => [some (.dat (mapD T.C_Map M)), some (.dat (stD (atS M s l i))), some (.dat lg), some (.own 0), none, none]
  let acc : Nat → List D := fun i => (walkS M (some s) (l.take i)).map stO
  refine ⟨[.gone], .inl (ds_guard' (m1 := []) (db_or_f (m1 := []) (db_nt' (dt_isiLT (dt_var (i := 2) rfl) rfl (by decide))) (db_is (db_test (dt_i0b (g := fun a b => decide (a > b)) (dt_lenT (dt_var (i := 2) rfl)) dt_int)) (decide_eq_false (by rw [ln]; omega)))) ?_)⟩
  refine ds_seq (ss1 := f 0) (m1 := [.lst []]) (ds_set (i := 3) (dt_lstO da_nil)) ?_
  refine ds_seq (ss1 := f (l.map prD).length) (m1 := [.lst (acc (l.map prD).length)]) (ds_forG [4, 5] f (fun i => [.lst (acc i)]) rfl (by
    have z := di_enumT (K := K) (ss := f 0) (mem := [.lst []]) (dt_var (i := 2) rfl)
    have e0 : acc 0 = [] := by
      show (walkS M (some s) (l.take 0)).map stO = []
      rw [List.take_zero, walk_nil]
      rfl
    show DI K _ _ _ _ _ [.lst (acc 0)]
    rw [e0]
    exact z) (fun _ => rfl) (fun _ => rfl) fun i hi => ?_) ?_
  · have hi : i < l.length := by omega
    obtain ⟨c, st⟩ := h.can hi
    obtain ⟨e1, ok1⟩ := h.st_at (i := i) (by omega)
    rw [nth_in prD ⟨0, 0, 0⟩ hi]
    let f2 : Sl := [some (.dat (mapD T.C_Map M)), some (.dat (stD (atS M s l i))), some (.dat lg), some (.own 0), some (.dat (.int (i : Nat))), some (.dat (prD l[i]))]
    have grow : acc (i + 1) = acc i ++ [stD (atS M s l (i + 1))] := by
      show (walkS M (some s) (l.take (i + 1))).map stO = (walkS M (some s) (l.take i)).map stO ++ _
      rw [take_one hi, walk_snoc e1, List.map_append, st]
      rfl
    have few2 : (acc i).length < 16777216 := by
      show ((walkS M (some s) (l.take i)).map stO).length < _
      rw [List.length_map, walk_len (trip_pre h.trip i (by omega)), List.length_take]
      omega
    have call := dt_call (K := K) (ss := f2) (mem := [.lst (acc i)]) (m1 := [.lst (acc i)]) (R := R_state_after T.C_Map) (n := 3) (E := E0) (da_cons (dt_var (i := 0) rfl) (da_cons (dt_var (i := 1) rfl) (da_cons (dt_var (i := 5) rfl) da_nil))) ⟨M, atS M s l i, l[i], rfl, h.map, ok1, c, rfl⟩
    rw [st] at call
    refine ⟨f2, _, f2.set 1 (some (.dat (stD (atS M s l (i + 1))))), [], dg_tup (dgs_cons dg_name (dgs_cons dg_name dgs_nil)) rfl, ?_, rfl⟩
    refine ds_seq (ss1 := f2.set 1 (some (.dat (stD (atS M s l (i + 1)))))) (m1 := [.lst (acc i)]) (ds_set (i := 1) call) (ds_seq (m1 := [.lst (acc i)]) (ds_if_f (db_b (dt_isN (d := stD (atS M s l (i + 1))) (dt_var (i := 1) rfl))) ds_next) (ds_drop (r := .dat .non) ?_))
    rw [grow]
    exact dt_append (n := 0) (ds := acc i) (m1 := [.lst (acc i)]) (m2 := [.lst (acc i)]) (dt_var (i := 3) rfl) (da_cons (dt_var (i := 1) rfl) da_nil) rfl rfl few2
  · have e : acc (l.map prD).length = (walkS M (some s) l).map stO := by
      show (walkS M (some s) (l.take (l.map prD).length)).map stO = _
      rw [ln, List.take_length]
    rw [e]
    exact ds_ret (dt_frzR (n := 0) (m1 := [.lst ((walkS M (some s) l).map stO)]) (dt_var (i := 3) rfl) rfl)
def R_withL (C : Addr) (ds : List D) (d : D) : Prop := ∃ M s l, ds = [mapD C M, stD s, .lst (l.map prD)] ∧ LogOk M s l ∧ d = .rls ((statesS M s l).map stO)
theorem ok_states_with (T : Txt K mg) : FnOk P w K mg base CX0 9 T.a_states_with T.fd_states_with ["chart", "state", "log"] (spP K 3 (R_withL T.C_Map)) := by
  refine fnP T.F_states_with sc_states_with rfl (fun cdv A outer s H E hr => ?_)
  refine ⟨_, (pss_cons (ps_expr (pe_call (ok_check_map T) (hr.mono (by decide)) (by rfl) T.g_check_map T.F_check_map.kp T.b_check_map .nil pass0 (pa_cons (pv 0) pa_nil)))
  (pss_cons (ps_expr (pe_call (ok_check_state T) (hr.mono (by decide)) (by rfl) T.g_check_state T.F_check_state.kp T.b_check_state .nil pass0 (pa_cons (pv 0) (pa_cons (pv 1) pa_nil))))
  (pss_one (ps_ret (pe_op op_cat (pe_lst (pa_cons (pv 1) pa_nil)) (pe_call (ok_states_after T) (hr.mono (by decide)) (by rfl) T.g_states_after T.F_states_after.kp T.b_states_after .nil pass0 (pa_cons (pv 0) (pa_cons (pv 1) (pa_cons (pv 2) pa_nil))))))))), ?_⟩
  rintro ds d ⟨M, s, l, rfl, h, rfl⟩ -
  have few := h.few
  let ss : Sl := [some (.dat (mapD T.C_Map M)), some (.dat (stD s)), some (.dat (.lst (l.map prD)))]
  refine .rt (ds_seq (ss1 := ss) (m1 := []) (ds_drop (dt_call (da_cons (dt_var (i := 0) rfl) da_nil) ⟨⟨M, rfl⟩, rfl⟩)) (ds_seq (ss1 := ss) (m1 := []) (ds_drop (dt_call (da_cons (dt_var (i := 0) rfl) (da_cons (dt_var (i := 1) rfl) da_nil)) ⟨⟨M, s, rfl, h.st⟩, rfl⟩)) (ds_ret ?_)))
  exact dt_catRR (ds := [stD s]) (es := (walkS M (some s) l).map stO) (dt_tlR (dt_lstT (da_cons (dt_var (i := 1) rfl) da_nil))) (dt_call (da_cons (dt_var (i := 0) rfl) (da_cons (dt_var (i := 1) rfl) (da_cons (dt_var (i := 2) rfl) da_nil))) ⟨M, s, l, rfl, h, rfl⟩) (by
    rw [List.length_map, walk_len h.trip]
    show 1 + _ ≤ _
    omega)
def R_withT (C : Addr) (ds : List D) (d : D) : Prop := ∃ M s l, ds = [mapD C M, stD s, .tup (l.map prD)] ∧ LogOk M s l ∧ d = .rls ((statesS M s l).map stO)
theorem ok_states_withT (T : Txt K mg) : FnOk P w K mg base CX0 9 T.a_states_with T.fd_states_with ["chart", "state", "log"] (spP K 3 (R_withT T.C_Map)) := by
  refine fnP T.F_states_with sc_states_with rfl (fun cdv A outer s H E hr => ?_)
  refine ⟨_, (pss_cons (ps_expr (pe_call (ok_check_map T) (hr.mono (by decide)) (by rfl) T.g_check_map T.F_check_map.kp T.b_check_map .nil pass0 (pa_cons (pv 0) pa_nil)))
  (pss_cons (ps_expr (pe_call (ok_check_state T) (hr.mono (by decide)) (by rfl) T.g_check_state T.F_check_state.kp T.b_check_state .nil pass0 (pa_cons (pv 0) (pa_cons (pv 1) pa_nil))))
  (pss_one (ps_ret (pe_op op_cat (pe_lst (pa_cons (pv 1) pa_nil)) (pe_call (ok_states_afterT T) (hr.mono (by decide)) (by rfl) T.g_states_after T.F_states_after.kp T.b_states_after .nil pass0 (pa_cons (pv 0) (pa_cons (pv 1) (pa_cons (pv 2) pa_nil))))))))), ?_⟩
  rintro ds d ⟨M, s, l, rfl, h, rfl⟩ -
  have few := h.few
  let ss : Sl := [some (.dat (mapD T.C_Map M)), some (.dat (stD s)), some (.dat (.tup (l.map prD)))]
  refine .rt (ds_seq (ss1 := ss) (m1 := []) (ds_drop (dt_call (da_cons (dt_var (i := 0) rfl) da_nil) ⟨⟨M, rfl⟩, rfl⟩)) (ds_seq (ss1 := ss) (m1 := []) (ds_drop (dt_call (da_cons (dt_var (i := 0) rfl) (da_cons (dt_var (i := 1) rfl) da_nil)) ⟨⟨M, s, rfl, h.st⟩, rfl⟩)) (ds_ret ?_)))
  exact dt_catRR (ds := [stD s]) (es := (walkS M (some s) l).map stO) (dt_tlR (dt_lstT (da_cons (dt_var (i := 1) rfl) da_nil))) (dt_call (da_cons (dt_var (i := 0) rfl) (da_cons (dt_var (i := 1) rfl) (da_cons (dt_var (i := 2) rfl) da_nil))) ⟨M, s, l, rfl, h, rfl⟩) (by
    rw [List.length_map, walk_len h.trip]
    show 1 + _ ≤ _
    omega)
theorem states_len {M : MapD} {s : StD} {l : List Pr} (h : LogOk M s l) : (statesS M s l).length = l.length + 1 := congrArg (· + 1) (walk_len h.trip)
theorem states_at {M : MapD} {s : StD} {l : List Pr} (h : LogOk M s l) {i : Nat} (hi : i ≤ l.length) : (statesS M s l)[i]? = some (some (atS M s l i)) := by
  have e := states_get (M := M) h.trip hi
  rw [(h.st_at hi).1] at e
  exact e
theorem states_nth {M : MapD} {s : StD} {l : List Pr} (h : LogOk M s l) {i : Nat} (hi : i ≤ l.length) : nthD ((statesS M s l).map stO) i = stD (atS M s l i) := by
  unfold nthD
  rw [List.getD_eq_getElem?_getD, List.getElem?_map, states_at h hi]
  rfl
theorem at_last {α : Type} {l : List α} {x : α} (h : l.getLast? = some x) : L2.atI l (-1) = some x := by
  have ne : l ≠ [] := fun z => by rw [z] at h; cases h
  have pos : 0 < l.length := List.length_pos_iff.mpr ne
  unfold L2.atI
  rw [show ixN l.length (-1) = some (l.length - 1) by
    unfold ixN
    have h1 : ¬ (0 ≤ (-1 : Int)) := by decide
    simp [h1]
    omega]
  rw [Option.bind_some, ← List.getLast?_eq_getElem?]
  exact h
def R_after_log (C : Addr) (ds : List D) (d : D) : Prop := ∃ M s l, ds = [mapD C M, stD s, .lst (l.map prD)] ∧ LogOk M s l ∧ d = stO (lastS M (some s) l)
theorem ok_after_log (T : Txt K mg) : FnOk P w K mg base CX0 10 T.a_after_log T.fd_after_log ["chart", "state", "log"] (spP K 3 (R_after_log T.C_Map)) := by
  refine fnP T.F_after_log sc_after_log rfl (fun cdv A outer s H E hr => ?_)
  refine ⟨_, (pss_one (ps_ret (pe_ix (ixL K) (pe_call (ok_states_with T) (hr.mono (by decide)) (by rfl) T.g_states_with T.F_states_with.kp T.b_states_with .nil pass0 (pa_cons (pv 0) (pa_cons (pv 1) (pa_cons (pv 2) pa_nil)))) (pe_un un_neg pe_int) (fun _ _ => rfl)))), ?_⟩
  rintro ds d ⟨M, s, l, rfl, h, rfl⟩ -
  refine .rt (ds_ret (dt_ixL (dt_rls (dt_call (da_cons (dt_var (i := 0) rfl) (da_cons (dt_var (i := 1) rfl) (da_cons (dt_var (i := 2) rfl) da_nil))) ⟨M, s, l, rfl, h, rfl⟩)) (dt_un dt_int) (at_last ?_)))
  rw [List.getLast?_map]
  show ((some s :: walkS M (some s) l).getLast?).map stO = _
  rw [states_last h.trip]
  rfl
/-- what each pair costs -/
def costsS (M : MapD) (s : StD) (l : List Pr) : List Int := (List.range l.length).map fun i => M.fee (atS M s l i) (l.getD i ⟨0, 0, 0⟩).p
def R_spent (C : Addr) (ds : List D) (d : D) : Prop := ∃ M s l, ds = [mapD C M, stD s, .tup (l.map prD)] ∧ LogOk M s l ∧ d = .lst ((costsS M s l).map .int)
theorem getD_at {α : Type} {l : List α} {i : Nat} (h : i < l.length) (z : α) : l.getD i z = l[i] := by
  rw [List.getD_eq_getElem?_getD, List.getElem?_eq_getElem h]
  rfl
theorem ok_spent (T : Txt K mg) : FnOk P w K mg base CX0 10 T.a_spent T.fd_spent ["chart", "state", "log"] (spP K 3 (R_spent T.C_Map)) := by
  refine fnP T.F_spent sc_spent rfl (fun cdv A outer s H E hr => ?_)
  refine ⟨_, (pss_cons (ps_set (i := 3) sc_spent.nd rfl (.inl rfl) (pe_call (ok_states_withT T) (hr.mono (by decide)) (by rfl) T.g_states_with T.F_states_with.kp T.b_states_with .nil pass0 (pa_cons (pv 0) (pa_cons (pv 1) (pa_cons (pv 2) pa_nil)))))
  (pss_one (ps_ret (pe_lc (own := [("before", 4), ("pair", 5)]) rfl sc_spent.nd (piZipLU K (by rfl) T.n_zip (pa_cons (pv 3) (pa_cons (pv 2) pa_nil))) (blkOk_by (own := [("before", 4), ("pair", 5)]) (N := ["chart", "state", "log", "states", "before", "pair"]) (sc := defScope s_spent) (by decide +kernel)) (fun _ _ _ _ _ => (pgTup K 2 (pgs_cons (pg_name (i := 4) sc_spent.nd rfl (.inl rfl)) (pgs_cons (pg_name (i := 5) sc_spent.nd rfl (.inl rfl)) pgs_nil)))) (fun _ _ _ _ _ => pts_nil) (fun _ _ _ _ _ => (pe_call (ok_move_cost T) (hr.mono (by decide)) (by rfl) T.g_move_cost T.F_move_cost.kp T.b_move_cost .nil pass0 (pa_cons (pv 0) (pa_cons (pv 4) (pa_cons (pe_ix (ixT K) (pv 5) pe_int (fun _ _ => rfl)) pa_nil))))))))), ?_⟩
  rintro ds d ⟨M, s, l, rfl, h, rfl⟩ -
  have few := h.few
  have ln : (l.map prD).length = l.length := List.length_map ..
  have sn : ((statesS M s l).map stO).length = l.length + 1 := by rw [List.length_map, states_len h]
  have n : min ((statesS M s l).map stO).length (l.map prD).length = l.length := by omega
  let s2 : Sl := [some (.dat (mapD T.C_Map M)), some (.dat (stD s)), some (.dat (.tup (l.map prD))), some (.dat (.rls ((statesS M s l).map stO))), none, none]
  refine .rt (ds_seq (ss1 := s2) (m1 := []) (ds_set (i := 3) (dt_call (da_cons (dt_var (i := 0) rfl) (da_cons (dt_var (i := 1) rfl) (da_cons (dt_var (i := 2) rfl) da_nil))) ⟨M, s, l, rfl, h, rfl⟩)) (ds_ret ?_))
  have walk := di_zipLU (K := K) (ss := s2) (mem := []) (m1 := []) (da_cons (dt_rls (dt_var (i := 3) rfl)) (da_cons (dt_var (i := 2) rfl) da_nil))
  rw [n] at walk
  unfold costsS
  rw [List.map_map]
  refine dt_lcMap walk _ (by omega) fun i hi => ⟨_, _, dg_tup (dgs_cons dg_name (dgs_cons dg_name dgs_nil)) rfl, by decide, ?_⟩
  rw [states_nth h (by omega), nth_in prD ⟨0, 0, 0⟩ hi]
  obtain ⟨c, -⟩ := h.can hi
  have ok1 := (h.st_at (i := i) (by omega)).2
  refine dt_call (da_cons (dt_var (i := 0) rfl) (da_cons (dt_var (i := 4) rfl) (da_cons (dt_ixT (ds := [mvD l[i].p l[i].r, .int (l[i].m : Nat)]) (dt_var (i := 5) rfl) dt_int rfl) da_nil))) ⟨M, atS M s l i, l[i].p, l[i].r, rfl, feeOk h.map ok1 c.mv, ?_⟩
  show D.int (M.fee _ (l.getD i ⟨0, 0, 0⟩).p) = _
  rw [getD_at hi]
/-- the ice that melts on each road -/
def meltS (M : MapD) (s : StD) (l : List Pr) : List Int := (List.range l.length).map fun i => (atS M s l i).i + (l.getD i ⟨0, 0, 0⟩).p - (atS M s l (i + 1)).i
def R_melted (C : Addr) (ds : List D) (d : D) : Prop := ∃ M s l, ds = [mapD C M, stD s, .lst (l.map prD)] ∧ LogOk M s l ∧ d = .lst ((meltS M s l).map .int)
theorem ok_melted (T : Txt K mg) : FnOk P w K mg base CX0 10 T.a_melted T.fd_melted ["chart", "state", "log"] (spP K 3 (R_melted T.C_Map)) := by
  refine fnP T.F_melted sc_melted rfl (fun cdv A outer s H E hr => ?_)
  refine ⟨_, (pss_cons (ps_set (i := 3) sc_melted.nd rfl (.inl rfl) (pe_call (ok_states_with T) (hr.mono (by decide)) (by rfl) T.g_states_with T.F_states_with.kp T.b_states_with .nil pass0 (pa_cons (pv 0) (pa_cons (pv 1) (pa_cons (pv 2) pa_nil)))))
  (pss_one (ps_ret (pe_lc (own := [("before", 4), ("pair", 5), ("after", 6)]) rfl sc_melted.nd (piZip3 K (by rfl) T.n_zip (pa_cons (pv 3) (pa_cons (pv 2) (pa_cons (pe_slice (slL K) (pv 3) (po_some pe_int) po_none) pa_nil)))) (blkOk_by (own := [("before", 4), ("pair", 5), ("after", 6)]) (N := ["chart", "state", "log", "states", "before", "pair", "after"]) (sc := defScope s_melted) (by decide +kernel)) (fun _ _ _ _ _ => (pgTup K 3 (pgs_cons (pg_name (i := 4) sc_melted.nd rfl (.inl rfl)) (pgs_cons (pg_name (i := 5) sc_melted.nd rfl (.inl rfl)) (pgs_cons (pg_name (i := 6) sc_melted.nd rfl (.inl rfl)) pgs_nil))))) (fun _ _ _ _ _ => pts_nil) (fun _ _ _ _ _ => (pe_op op_sub (pe_op op_add (pe_ix (ixT K) (pv 4) pe_int (fun _ _ => rfl)) (pe_ix (ixT K) (pe_ix (ixT K) (pv 5) pe_int (fun _ _ => rfl)) pe_int (fun _ _ => rfl))) (pe_ix (ixT K) (pv 6) pe_int (fun _ _ => rfl)))))))), ?_⟩
  rintro ds d ⟨M, s, l, rfl, h, rfl⟩ -
  have few := h.few
  have ln : (l.map prD).length = l.length := List.length_map ..
  have sn : ((statesS M s l).map stO).length = l.length + 1 := by rw [List.length_map, states_len h]
  let rest : List D := DL.cutD ((statesS M s l).map stO) (some 1) none
  have er : rest = ((statesS M s l).map stO).drop 1 := by
    show DL.cutD _ (some 1) none = _
    unfold DL.cutD
    have e1 : HT.sIx ((statesS M s l).map stO).length 0 (some 1) = 1 := by
      unfold HT.sIx
      rw [sn]
      simp
      try omega
    have e2 : HT.sIx ((statesS M s l).map stO).length ((statesS M s l).map stO).length none = ((statesS M s l).map stO).length := rfl
    rw [e1, e2]
    exact List.take_of_length_le (by rw [List.length_drop]; exact Nat.le_refl _)
  have rn : rest.length = l.length := by rw [er, List.length_drop, sn]; omega
  have n : min (min ((statesS M s l).map stO).length (l.map prD).length) rest.length = l.length := by omega
  let s2 : Sl := [some (.dat (mapD T.C_Map M)), some (.dat (stD s)), some (.dat (.lst (l.map prD))), some (.dat (.rls ((statesS M s l).map stO))), none, none, none]
  refine .rt (ds_seq (ss1 := s2) (m1 := []) (ds_set (i := 3) (dt_call (da_cons (dt_var (i := 0) rfl) (da_cons (dt_var (i := 1) rfl) (da_cons (dt_var (i := 2) rfl) da_nil))) ⟨M, s, l, rfl, h, rfl⟩)) (ds_ret ?_))
  have walk := di_zip3 (K := K) (ss := s2) (mem := []) (m1 := []) (fs := rest) (da_cons (dt_rls (dt_var (i := 3) rfl)) (da_cons (dt_var (i := 2) rfl) (da_cons (dt_rls (dt_slR (lo := some 1) (hi := none) (dt_rls (dt_var (i := 3) rfl)) (do_some dt_int) do_none)) da_nil)))
  rw [n] at walk
  unfold meltS
  rw [List.map_map]
  refine dt_lcMap walk _ (by omega) fun i hi => ⟨_, _, dg_tup (dgs_cons dg_name (dgs_cons dg_name (dgs_cons dg_name dgs_nil))) rfl, by decide, ?_⟩
  have e3 : nthD rest i = stD (atS M s l (i + 1)) := by
    have z := states_nth h (i := i + 1) (by omega)
    rw [er]
    unfold nthD at z ⊢
    rw [List.getD_eq_getElem?_getD] at z ⊢
    rw [List.getElem?_drop, Nat.add_comm 1 i]
    exact z
  rw [states_nth h (by omega), nth_in prD ⟨0, 0, 0⟩ hi, e3]
  have e4 : (.int ((atS M s l i).i + (l.getD i ⟨0, 0, 0⟩).p - (atS M s l (i + 1)).i) : D) = .int ((atS M s l i).i + (l[i].p : Nat) - (atS M s l (i + 1)).i) := by rw [getD_at hi]
  show DT K _ _ _ (.dat (.int ((atS M s l i).i + (l.getD i ⟨0, 0, 0⟩).p - (atS M s l (i + 1)).i))) _
  rw [e4]
  exact dt_i0 (dt_i0 (dt_ixT (dt_var (i := 4) rfl) dt_int rfl) (dt_ixT (dt_ixT (ds := [mvD l[i].p l[i].r, .int (l[i].m : Nat)]) (dt_var (i := 5) rfl) dt_int rfl) dt_int rfl)) (dt_ixT (dt_var (i := 6) rfl) dt_int rfl)
end
end K33
end
section
set_option Elab.async false
set_option linter.all false
set_option maxRecDepth 100000
set_option maxHeartbeats 4000000
namespace K33
open PySem PySem.Spec PyProof.Rows L2 DL
/-! ### sessions -/
def momD (CM : Addr) (M : MapD) (s0 : StD) (l : List Pr) : D := .obj CM [("states", .tup ((statesS M s0 l).map stO)), ("pairs", .tup (l.map prD)), ("begin", .non)]
def sesFs (C CM : Addr) (M : MapD) (s0 : StD) (l : List Pr) : List (Str × D) := [("_chart", mapD C M), ("_now", momD CM M s0 l)]
structure SesOk (M : MapD) (s0 : StD) (l : List Pr) : Prop where
  map : M.Ok
  st : s0.Ok M
  trip : Trip M (some s0) l
  few : l.length ≤ 40
theorem SesOk.now {M : MapD} {s0 s : StD} {l : List Pr} (h : SesOk M s0 l) (e : lastS M (some s0) l = some s) : s.Ok M := last_ok h.map (fun u eu => by cases eu; exact h.st) h.trip e
theorem SesOk.last {M : MapD} {s0 : StD} {l : List Pr} (h : SesOk M s0 l) : L2.atI ((statesS M s0 l).map stO) (-1) = some (stO (lastS M (some s0) l)) := at_last (by
  rw [List.getLast?_map]
  show ((some s0 :: walkS M (some s0) l).getLast?).map stO = _
  rw [states_last h.trip]
  rfl)
theorem states_more {M : MapD} {s0 s : StD} {l : List Pr} {x : Pr} (e : lastS M (some s0) l = some s) : statesS M s0 (l ++ [x]) = statesS M s0 l ++ [stepS M s x] := congrArg (some s0 :: ·) (walk_snoc e)
/-- what is known of a session -/
def Ses (C CM CS : Addr) (m : Mc) (M : MapD) (s0 : StD) (l : List Pr) : Prop := SesOk M s0 l ∧ m = .obj CS (sesFs C CM M s0 l)
section
variable {P : Program} {w : World} {K : PySem.W.Frag} {mg : Str → Option Value} {base : Heap} {k : Nat}
theorem ok_Moment___init__ (T : Txt K mg) : FnOk P w K mg base CX0 1 T.a_Moment___init__ T.fd_Moment___init__ ["self", "states", "pairs", "begin"] (spO K 4 fun m ds d m' => ∃ a b c : D, m = .obj T.C_Moment [] ∧ ds = [a, b, c] ∧ d = .non ∧ m' = .obj T.C_Moment [("states", a), ("pairs", b), ("begin", c)]) := by
  refine fnO T.F_Moment___init__ sc_Moment___init__ rfl (fun cdv A outer s H E hr => ?_)
  refine ⟨_, (pss_cons (ps_fld (pv 0) (pv 1) rfl)
  (pss_cons (ps_fld (pv 0) (pv 2) rfl)
  (pss_one (ps_fld (pv 0) (pv 3) rfl)))), ?_⟩
  rintro m ds d m' ⟨a, b, c, rfl, rfl, rfl, rfl⟩ -
  let s0 : Sl := [some (.own 0), some (.dat a), some (.dat b), some (.dat c)]
  refine .nx (s := s0) (ds_seq (ss1 := s0) (m1 := [.obj T.C_Moment [("states", a)]]) (ds_fld (n := 0) (m2 := [.obj T.C_Moment []]) (gs := []) (dt_var (i := 1) rfl) (dt_var (i := 0) rfl) rfl T.T_Moment.cl T.na_Moment_states (Nat.le_of_ble_eq_true rfl)) ?_)
  refine ds_seq (ss1 := s0) (m1 := [.obj T.C_Moment [("states", a), ("pairs", b)]]) (ds_fld (n := 0) (m2 := [.obj T.C_Moment [("states", a)]]) (dt_var (i := 2) rfl) (dt_var (i := 0) rfl) rfl T.T_Moment.cl T.na_Moment_pairs (Nat.le_of_ble_eq_true rfl)) ?_
  exact ds_fld (n := 0) (m2 := [.obj T.C_Moment [("states", a), ("pairs", b)]]) (dt_var (i := 3) rfl) (dt_var (i := 0) rfl) rfl T.T_Moment.cl T.na_Moment_begin (Nat.le_of_ble_eq_true rfl)
/-- Moment(..) -/
theorem dt_moment (T : Txt K mg) {ss : Sl} {mem m1 : List Mc} {t : TA} {a b c : D} (h : DA K t ss mem [a, b, c] m1) : DT K (tMake T.C_Moment (spO K 4 fun m ds d m' => ∃ a b c : D, m = .obj T.C_Moment [] ∧ ds = [a, b, c] ∧ d = .non ∧ m' = .obj T.C_Moment [("states", a), ("pairs", b), ("begin", c)]) [] E0 t) ss mem (.dat (.obj T.C_Moment [("states", a), ("pairs", b), ("begin", c)])) m1 :=
  dt_make h ⟨a, b, c, rfl, rfl, rfl, rfl⟩
def R_ses_init (C CM CS : Addr) (m : Mc) (ds : List D) (d : D) (m' : Mc) : Prop := ∃ (M : MapD) (l : Int), 0 ≤ l ∧ l ≤ 4 ∧ m = .obj CS [] ∧ ds = [mapD C M, .int l] ∧ d = .non ∧ m' = .obj CS (sesFs C CM M (firstS l) [])
theorem ok_Session___init__ (T : Txt K mg) : FnOk P w K mg base CX0 4 T.a_Session___init__ T.fd_Session___init__ ["self", "chart", "late"] (spO K 3 (R_ses_init T.C_Map T.C_Moment T.C_Session)) := by
  refine fnO T.F_Session___init__ sc_Session___init__ rfl (fun cdv A outer s H E hr => ?_)
  refine ⟨_, (pss_cons (ps_expr (pe_call (ok_check_map T) (hr.mono (by decide)) (by rfl) T.g_check_map T.F_check_map.kp T.b_check_map .nil pass0 (pa_cons (pv 1) pa_nil)))
  (pss_cons (ps_expr (pe_call (ok_check_lateness T) (hr.mono (by decide)) (by rfl) T.g_check_lateness T.F_check_lateness.kp T.b_check_lateness .nil pass0 (pa_cons (pv 2) pa_nil)))
  (pss_cons (ps_fld (pv 0) (pv 1) rfl)
  (pss_one (ps_fld (pv 0) (pe_make T.mk_Moment (ok_Moment___init__ T) (hr.mono (by decide)) (by rfl) T.g_Moment T.b_Moment___init__ .nil pass0 (pa_cons (pe_tup (pa_cons (pe_call (ok_first_state T) (hr.mono (by decide)) (by rfl) T.g_first_state T.F_first_state.kp T.b_first_state .nil pass0 (pa_cons (pv 2) pa_nil)) pa_nil)) (pa_cons (pe_tup pa_nil) (pa_cons pe_non pa_nil)))) rfl))))), ?_⟩
  rintro m ds d m' ⟨M, l, l0, l4, rfl, rfl, rfl, rfl⟩ -
  let s0 : Sl := [some (.own 0), some (.dat (mapD T.C_Map M)), some (.dat (.int l))]
  refine .nx (s := s0) (ds_seq (ss1 := s0) (m1 := [.obj T.C_Session []]) (ds_drop (dt_call (da_cons (dt_var (i := 1) rfl) da_nil) ⟨⟨M, rfl⟩, rfl⟩)) ?_)
  refine ds_seq (ss1 := s0) (m1 := [.obj T.C_Session []]) (ds_drop (dt_call (da_cons (dt_var (i := 2) rfl) da_nil) ⟨⟨l, rfl, l0, l4⟩, rfl⟩)) ?_
  refine ds_seq (ss1 := s0) (m1 := [.obj T.C_Session [("_chart", mapD T.C_Map M)]]) (ds_fld (n := 0) (m2 := [.obj T.C_Session []]) (gs := []) (dt_var (i := 1) rfl) (dt_var (i := 0) rfl) rfl T.T_Session.cl T.na_Session__chart (Nat.le_of_ble_eq_true rfl)) ?_
  refine ds_fld (n := 0) (m2 := [.obj T.C_Session [("_chart", mapD T.C_Map M)]]) (d := momD T.C_Moment M (firstS l) []) (dt_moment T (da_cons (dt_tup (da_cons (dt_call (da_cons (dt_var (i := 2) rfl) da_nil) ⟨l, rfl, rfl⟩) da_nil)) (da_cons (dt_tup da_nil) (da_cons dt_non da_nil)))) (dt_var (i := 0) rfl) rfl T.T_Session.cl T.na_Session__now (Nat.le_of_ble_eq_true rfl)
section
variable {ss : Sl} {mem m1 m2 : List Mc} {te : TE} {p : Nat} {C : Addr} {M : MapD} {s0 : StD} {l : List Pr}
/-- o._now, o._chart; now.states, now.pairs, now.begin -/
theorem dt_now (T : Txt K mg) (h : DT K te ss mem (.own p) m1) (hm : m1[p]? = some (.obj T.C_Session (sesFs C T.C_Moment M s0 l))) : DT K (tFld K te "_now") ss mem (.dat (momD T.C_Moment M s0 l)) m1 := dt_fldO h hm T.T_Session.cl T.na_Session__now rfl
theorem dt_chart (T : Txt K mg) (h : DT K te ss mem (.own p) m1) (hm : m1[p]? = some (.obj T.C_Session (sesFs C T.C_Moment M s0 l))) : DT K (tFld K te "_chart") ss mem (.dat (mapD C M)) m1 := dt_fldO h hm T.T_Session.cl T.na_Session__chart rfl
theorem dt_states (T : Txt K mg) (h : DT K te ss mem (.dat (momD T.C_Moment M s0 l)) m1) : DT K (tFld K te "states") ss mem (.dat (.tup ((statesS M s0 l).map stO))) m1 := dt_fld h T.T_Moment.cl T.na_Moment_states rfl
theorem dt_pairs (T : Txt K mg) (h : DT K te ss mem (.dat (momD T.C_Moment M s0 l)) m1) : DT K (tFld K te "pairs") ss mem (.dat (.tup (l.map prD))) m1 := dt_fld h T.T_Moment.cl T.na_Moment_pairs rfl
theorem dt_begin (T : Txt K mg) (h : DT K te ss mem (.dat (momD T.C_Moment M s0 l)) m1) : DT K (tFld K te "begin") ss mem (.dat .non) m1 := dt_fld h T.T_Moment.cl T.na_Moment_begin rfl
end
abbrev sesM (T : Txt K mg) (M : MapD) (s0 : StD) (l : List Pr) : Mc := .obj T.C_Session (sesFs T.C_Map T.C_Moment M s0 l)
/-- looks at a session, and leaves it -/
def looks (CS C CM : Addr) (f : MapD → StD → List Pr → D → Prop) (args : List Vl) (m : Mc) (d : D) (m' : Mc) : Prop := ∃ M s0 l, SesOk M s0 l ∧ args = [.own 0] ∧ m = .obj CS (sesFs C CM M s0 l) ∧ f M s0 l d ∧ m' = m
abbrev R_state (CS C CM : Addr) := looks CS C CM fun M s0 l d => d = stO (lastS M (some s0) l)
theorem ok_Session_state (T : Txt K mg) : FnOk P w K mg base CX0 1 T.a_Session_state T.fd_Session_state ["self"] (spM K 1 (R_state T.C_Session T.C_Map T.C_Moment)) := by
  refine fnM T.F_Session_state sc_Session_state rfl (fun cdv A outer s H E hr => ?_)
  refine ⟨_, (pss_one (ps_ret (pe_ix (ixT K) (peFld K (peFld K (pv 0))) (pe_un un_neg pe_int) (fun _ _ => rfl)))), ?_⟩
  rintro args m d m' ⟨M, s0, l, h, rfl, rfl, rfl, rfl⟩ -
  exact .rt (ds_ret (dt_ixT (dt_states T (dt_now T (dt_var (i := 0) rfl) rfl)) (dt_un dt_int) h.last))
abbrev R_journal (CS C CM : Addr) := looks CS C CM fun _ _ l d => d = .rls (l.map prD)
theorem ok_Session_journal (T : Txt K mg) : FnOk P w K mg base CX0 1 T.a_Session_journal T.fd_Session_journal ["self"] (spM K 1 (R_journal T.C_Session T.C_Map T.C_Moment)) := by
  refine fnM T.F_Session_journal sc_Session_journal rfl (fun cdv A outer s H E hr => ?_)
  refine ⟨_, (pss_one (ps_ret (pe_callTy (callListOf K) (by rfl) T.n_list (by decide +kernel) (pa_cons (peFld K (peFld K (pv 0))) pa_nil)))), ?_⟩
  rintro args m d m' ⟨M, s0, l, h, rfl, rfl, rfl, rfl⟩ -
  exact .rt (ds_ret (dt_listT (dt_pairs T (dt_now T (dt_var (i := 0) rfl) rfl))))
abbrev R_slen (CS C CM : Addr) := looks CS C CM fun _ _ l d => d = .int ((l.length : Nat) : Int)
theorem ok_Session___len__ (T : Txt K mg) : FnOk P w K mg base CX0 1 T.a_Session___len__ T.fd_Session___len__ ["self"] (spM K 1 (R_slen T.C_Session T.C_Map T.C_Moment)) := by
  refine fnM T.F_Session___len__ sc_Session___len__ rfl (fun cdv A outer s H E hr => ?_)
  refine ⟨_, (pss_one (ps_ret (pe_callB (callLen K) (by rfl) T.n_len PySem.boot_len (pa_cons (peFld K (peFld K (pv 0))) pa_nil)))), ?_⟩
  rintro args m d m' ⟨M, s0, l, h, rfl, rfl, rfl, rfl⟩ -
  refine .rt (ds_ret ?_)
  rw [show ((l.length : Nat) : Int) = ((l.map prD).length : Int) by rw [List.length_map]]
  exact dt_lenT (dt_pairs T (dt_now T (dt_var (i := 0) rfl) rfl))
theorem it_Session (T : Txt K mg) : FnOk P w K mg base CX0 1 T.a_Session___iter__ T.fd_Session___iter__ ["self"] (spItT K T.C_Session T.C_Moment "_now" "pairs" base.objs.size) := by
  refine T.F_Session___iter__.ok sc_Session___iter__ (fun vs H Q E h => ?_) (fun cdv A outer s H vs Q E hr h => ?_)
  · obtain ⟨a, _, _, _, _, _, _, _, e, _⟩ := h
    rw [e]
    rfl
  · obtain ⟨a, dx, fs, b, dx2, fs2, q, zs, rfl, ha, hf, hb, hg, sq, fin⟩ := h
    refine ⟨_, pss_one (ps_ret (pe_callB call_iterT (by rfl) T.n_iter (by decide +kernel) (pa_cons (pe_fld (pe_fld (pv 0) rfl) rfl) pa_nil))), ?_⟩
    exact ⟨.ref a, rfl, a, T.C_Session, dx, fs, .ref b, rfl, ha, T.T_Session.cl, T.na_Session__now, hf, b, T.C_Moment, dx2, fs2, .ref q, rfl, hb, T.T_Moment.cl, T.na_Moment_pairs, hg, q, zs, rfl, sq, fin⟩
theorem its_Session (T : Txt K mg) : ∀ base, FnOk P w K mg base CX0 1 T.a_Session___iter__ T.fd_Session___iter__ ["self"] (spItT K T.C_Session T.C_Moment "_now" "pairs" base.objs.size) := fun _ => it_Session T
theorem set_same' {α : Type} {l : List α} {p : Nat} {a : α} (h : l[p]? = some a) : l.set p a = l := by
  obtain ⟨lt, e⟩ := List.getElem?_eq_some_iff.mp h
  rw [← e, List.set_getElem_self]
section
variable {ss : Sl} {mem m1 m2 : List Mc} {te : TE} {p : Nat} {M : MapD} {s0 : StD} {l : List Pr} {f : MapD → StD → List Pr → D → Prop} {d : D}
/-- o.f, len(o), o.m(), where o is only looked at -/
theorem dt_lookP (T : Txt K mg) (h : DT K te ss mem (.own p) m1) (hm : m1[p]? = some (sesM T M s0 l)) (ok : SesOk M s0 l) (hf : f M s0 l d) : DT K (tProp T.C_Session (spM K 1 (looks T.C_Session T.C_Map T.C_Moment f)) [] E0 te) ss mem (.dat d) m1 := by
  have z := dt_propM (K := K) (R := looks T.C_Session T.C_Map T.C_Moment f) (E := E0) h hm ⟨M, s0, l, ok, rfl, rfl, hf, rfl⟩
  rwa [set_same' hm] at z
theorem dt_lookN (T : Txt K mg) {i : Int} (h : DT K te ss mem (.own p) m1) (hm : m1[p]? = some (sesM T M s0 l)) (ok : SesOk M s0 l) (hf : f M s0 l (.int i)) (h0 : 0 ≤ i) (h1 : i < 2 ^ 63) : DT K (tCB (rLenOwn T.C_Session (spM K 1 (looks T.C_Session T.C_Map T.C_Moment f)) E0) (tCons te tNil)) ss mem (.dat (.int i)) m1 := by
  have z := dt_lenM (K := K) (R := looks T.C_Session T.C_Map T.C_Moment f) (E := E0) h hm ⟨M, s0, l, ok, rfl, rfl, hf, rfl⟩ h0 h1
  rwa [set_same' hm] at z
theorem dt_lookM (T : Txt K mg) {mn : Str} (h : DT K te ss mem (.own p) m1) (hm : m1[p]? = some (sesM T M s0 l)) (hl : (sesFs T.C_Map T.C_Moment M s0 l).lookup mn = none) (ok : SesOk M s0 l) (hf : f M s0 l d) : DT K (tMeth T.C_Session mn (spM K 1 (looks T.C_Session T.C_Map T.C_Moment f)) [] E0 te tNil) ss mem (.dat d) m1 := by
  have z := dt_methM (K := K) (R := looks T.C_Session T.C_Map T.C_Moment f) (E := E0) (n := 1) (ds := []) (t := tNil) h hm hl da_nil hm ⟨M, s0, l, ok, rfl, rfl, hf, rfl⟩
  rwa [set_same' hm] at z
end
/-- whether the goods are there, unspoiled -/
def thereS (M : MapD) : Option StD → Bool
  | none => false
  | some s => M.done s
abbrev R_there (CS C CM : Addr) := looks CS C CM fun M s0 l d => d = .bl (thereS M (lastS M (some s0) l))
theorem ok_Session_is_there (T : Txt K mg) : FnOk P w K mg base CX0 4 T.a_Session_is_there T.fd_Session_is_there ["self"] (spM K 1 (R_there T.C_Session T.C_Map T.C_Moment)) := by
  refine fnM T.F_Session_is_there sc_Session_is_there rfl (fun cdv A outer s H E hr => ?_)
  refine ⟨_, (pss_one (ps_ret (pe_and (pe_cmp (pc_notN (pe_prop (pv 0) T.T_Session.cl T.PO_state (ok_Session_state T) (hr.mono (by decide)) T.b_Session_state .nil pass0 rfl)) rfl) (pe_one (pe_call (ok_is_done T) (hr.mono (by decide)) (by rfl) T.g_is_done T.F_is_done.kp T.b_is_done .nil pass0 (pa_cons (peFld K (pv 0)) (pa_cons (pe_prop (pv 0) T.T_Session.cl T.PO_state (ok_Session_state T) (hr.mono (by decide)) T.b_Session_state .nil pass0 rfl) pa_nil))))))), ?_⟩
  rintro args m d m' ⟨M, s0, l, h, rfl, rfl, rfl, rfl⟩ -
  have st : DT K (tProp T.C_Session (spM K 1 (R_state T.C_Session T.C_Map T.C_Moment)) [] E0 (tVar 0)) [some (.own 0)] [sesM T M s0 l] (.dat (stO (lastS M (some s0) l))) [sesM T M s0 l] := dt_lookP T (dt_var (i := 0) rfl) rfl h rfl
  refine .rt (ds_ret ?_)
  cases e : lastS M (some s0) l with
  | none =>
    rw [e] at st
    exact dt_andV_f (dt_notN (d := .non) st)
  | some s =>
    rw [e] at st
    exact dt_andV_t (b := M.done s) (m1 := [sesM T M s0 l]) (dt_notN (d := stD s) st) (dt_call (da_cons (dt_chart T (dt_var (i := 0) rfl) rfl) (da_cons st da_nil)) ⟨M, s, rfl, rfl⟩)
end
end K33
end
section
set_option Elab.async false
set_option linter.all false
set_option maxRecDepth 100000
set_option maxHeartbeats 4000000
namespace K33
open PySem PySem.Spec PyProof.Rows L2 DL
/-! ### sessions: what is paid, moves, what is taken back, branches -/
theorem SesOk.pre {M : MapD} {s0 : StD} {l : List Pr} {x : Pr} (h : SesOk M s0 (l ++ [x])) : SesOk M s0 l ∧ ∃ s, lastS M (some s0) l = some s ∧ s.Ok M ∧ CanP M s x := by
  obtain ⟨t, s, e, c⟩ := trip_snoc.mp h.trip
  have few := h.few
  rw [List.length_append] at few
  have q : SesOk M s0 l := ⟨h.map, h.st, t, by omega⟩
  exact ⟨q, s, e, q.now e, c⟩
/-- the state ahead of the i-th pair -/
theorem SesOk.at_ {M : MapD} {s0 : StD} {l : List Pr} (h : SesOk M s0 l) {i : Nat} (hi : i < l.length) : lastS M (some s0) (l.take i) = some (atS M s0 l i) ∧ (atS M s0 l i).Ok M ∧ CanP M (atS M s0 l i) l[i] := by
  obtain ⟨s, e, c⟩ := trip_at h.trip hi
  have ok := last_ok h.map (fun u eu => by cases eu; exact h.st) (trip_pre h.trip i (by omega)) e
  unfold atS
  rw [e]
  exact ⟨rfl, ok, c⟩
theorem ses_nth {M : MapD} {s0 : StD} {l : List Pr} (h : SesOk M s0 l) {i : Nat} (hi : i < l.length) : nthD ((statesS M s0 l).map stO) i = stD (atS M s0 l i) := by
  have e := states_get (M := M) h.trip (show i ≤ l.length by omega)
  rw [(h.at_ hi).1] at e
  unfold nthD
  rw [List.getD_eq_getElem?_getD, List.getElem?_map, show (statesS M s0 l)[i]? = _ from e]
  rfl
theorem ses_len {M : MapD} {s0 : StD} {l : List Pr} (h : SesOk M s0 l) : (statesS M s0 l).length = l.length + 1 := congrArg (· + 1) (walk_len h.trip)
theorem cut_init {ds : List D} {d : D} : DL.cutD (ds ++ [d]) none (some (-1)) = ds := by
  unfold DL.cutD
  have e1 : HT.sIx (ds ++ [d]).length 0 none = 0 := rfl
  have e2 : HT.sIx (ds ++ [d]).length (ds ++ [d]).length (some (-1)) = ds.length := by
    unfold HT.sIx
    rw [List.length_append, List.length_singleton]
    simp
    try omega
  rw [e1, e2, List.drop_zero, Nat.sub_zero, List.take_left]
section
variable {P : Program} {w : World} {K : PySem.W.Frag} {mg : Str → Option Value} {base : Heap} {k : Nat}
abbrev R_paid (CS C CM : Addr) := looks CS C CM fun M s0 l d => d = .int (costsS M s0 l).sum
theorem ok_Session_paid (T : Txt K mg) : FnOk P w K mg base CX0 5 T.a_Session_paid T.fd_Session_paid ["self"] (spM K 1 (R_paid T.C_Session T.C_Map T.C_Moment)) := by
  refine fnM T.F_Session_paid sc_Session_paid rfl (fun cdv A outer s H E hr => ?_)
  refine ⟨_, (pss_cons (ps_set (i := 1) sc_Session_paid.nd rfl (.inl rfl) (peFld K (pv 0)))
  (pss_one (ps_ret (pe_callB (callSum K rfl) (by rfl) T.n_sum (by decide +kernel) (pa_cons (pe_lc (own := [("state", 2), ("pair", 3)]) rfl sc_Session_paid.nd (RZ.pi_zipA (by rfl) T.n_zip (pa_cons (peFld K (pv 1)) (pa_cons (peFld K (pv 1)) pa_nil))) (blkOk_by (own := [("state", 2), ("pair", 3)]) (N := ["self", "now", "state", "pair"]) (sc := defScope s_Session_paid) (by decide +kernel)) (fun _ _ _ _ _ => (pgTup K 2 (pgs_cons (pg_name (i := 2) sc_Session_paid.nd rfl (.inl rfl)) (pgs_cons (pg_name (i := 3) sc_Session_paid.nd rfl (.inl rfl)) pgs_nil)))) (fun _ _ _ _ _ => pts_nil) (fun _ _ _ _ _ => (pe_call (ok_move_cost T) (hr.mono (by decide)) (by rfl) T.g_move_cost T.F_move_cost.kp T.b_move_cost .nil pass0 (pa_cons (peFld K (pv 0)) (pa_cons (pv 2) (pa_cons (pe_ix (ixT K) (pv 3) pe_int (fun _ _ => rfl)) pa_nil)))))) pa_nil))))), ?_⟩
  rintro args m d m' ⟨M, s0, l, h, rfl, rfl, rfl, rfl⟩ -
  have few := h.few
  have n : min ((statesS M s0 l).map stO).length (l.map prD).length = l.length := by
    rw [List.length_map, List.length_map, ses_len h]
    omega
  let s2 : Sl := [some (.own 0), some (.dat (momD T.C_Moment M s0 l)), none, none]
  refine .rt (ds_seq (ss1 := s2) (m1 := [sesM T M s0 l]) (ds_set (i := 1) (dt_now T (dt_var (i := 0) rfl) rfl)) (ds_ret (dt_sumL ?_)))
  have walk := di_zipTT (K := K) (ss := s2) (mem := [sesM T M s0 l]) (m1 := [sesM T M s0 l]) (da_cons (dt_states T (dt_var (i := 1) rfl)) (da_cons (dt_pairs T (dt_var (i := 1) rfl)) da_nil))
  rw [n] at walk
  unfold costsS
  rw [List.map_map]
  refine dt_lcMap walk _ (by omega) fun i hi => ⟨_, _, dg_tup (dgs_cons dg_name (dgs_cons dg_name dgs_nil)) rfl, by decide, ?_⟩
  obtain ⟨-, ok1, c⟩ := h.at_ hi
  rw [ses_nth h hi, nth_in prD ⟨0, 0, 0⟩ hi]
  refine dt_call (da_cons (dt_chart T (dt_var (i := 0) rfl) rfl) (da_cons (dt_var (i := 2) rfl) (da_cons (dt_ixT (ds := [mvD l[i].p l[i].r, .int (l[i].m : Nat)]) (dt_var (i := 3) rfl) dt_int rfl) da_nil))) ⟨M, atS M s0 l i, l[i].p, l[i].r, rfl, feeOk h.map ok1 c.mv, ?_⟩
  show D.int (M.fee _ (l.getD i ⟨0, 0, 0⟩).p) = _
  rw [getD_at hi]
theorem ends_at {M : MapD} {s : StD} {x : Pr} (c : CanP M s x) : L2.atI (M.ends s x.p x.r) (x.m : Nat) = some (stO (stepS M s x)) := by
  rw [ends_eq]
  unfold L2.atI
  have lt : x.m < (M.endsS s x.p x.r).length := (List.getElem?_eq_some_iff.mp c.at_).1
  rw [show ixN ((M.endsS s x.p x.r).map stO).length (x.m : Nat) = some x.m by
    rw [List.length_map]
    unfold ixN
    simp [lt]]
  rw [Option.bind_some, List.getElem?_map, c.at_]
  rfl
def R_drive (CS C CM : Addr) (args : List Vl) (m : Mc) (d : D) (m' : Mc) : Prop := ∃ M s0 l x, SesOk M s0 (l ++ [x]) ∧ args = [.own 0, .dat (mvD x.p x.r), .dat (.int (x.m : Nat))] ∧ m = .obj CS (sesFs C CM M s0 l) ∧ d = stO (lastS M (some s0) (l ++ [x])) ∧ m' = .obj CS (sesFs C CM M s0 (l ++ [x]))
theorem ok_Session_drive (T : Txt K mg) : FnOk P w K mg base CX0 8 T.a_Session_drive T.fd_Session_drive ["self", "move", "more"] (spM K 3 (R_drive T.C_Session T.C_Map T.C_Moment)) := by
  refine fnM T.F_Session_drive sc_Session_drive rfl (fun cdv A outer s H E hr => ?_)
  refine ⟨_, (pss_cons (ps_par (i := 3) (j := 4) (by rfl) sc_Session_drive.nd rfl rfl (by decide) rfl rfl (pa_cons (peFld K (pv 0)) (pa_cons (pe_prop (pv 0) T.T_Session.cl T.PO_state (ok_Session_state T) (hr.mono (by decide)) T.b_Session_state .nil pass0 rfl) pa_nil)) (by rfl))
  (pss_cons (ps_if (pt_cmp (pc_isN (pv 4))) (pss_one ps_never) pss_nil)
  (pss_cons (ps_expr (pe_call (ok_check_move T) (hr.mono (by decide)) (by rfl) T.g_check_move T.F_check_move.kp T.b_check_move .nil pass0 (pa_cons (peFld K (pv 0)) (pa_cons (pv 4) (pa_cons (pv 1) pa_nil)))))
  (pss_cons (ps_if (pt_not (pt_val (pe_call (ok_is_between T) (hr.mono (by decide)) (by rfl) T.g_is_between T.F_is_between.kp T.b_is_between .nil pass0 (pa_cons (pv 2) (pa_cons pe_int (pa_cons (pe_ix (ixT K) (pv 4) pe_int (fun _ _ => rfl)) pa_nil)))))) (pss_one ps_never) pss_nil)
  (pss_cons (ps_set (i := 5) sc_Session_drive.nd rfl (.inl rfl) (pe_ix (ixL K) (pe_call (ok_move_results T) (hr.mono (by decide)) (by rfl) T.g_move_results T.F_move_results.kp T.b_move_results .nil pass0 (pa_cons (peFld K (pv 0)) (pa_cons (pv 4) (pa_cons (pv 1) pa_nil)))) (pv 2) (fun _ _ => rfl)))
  (pss_cons (ps_fld (pv 0) (pe_make T.mk_Moment (ok_Moment___init__ T) (hr.mono (by decide)) (by rfl) T.g_Moment T.b_Moment___init__ .nil pass0 (pa_cons (pe_op (opCatA K) (peFld K (pv 3)) (pe_tup (pa_cons (pv 5) pa_nil))) (pa_cons (pe_op (opCatA K) (peFld K (pv 3)) (pe_tup (pa_cons (pe_tup (pa_cons (pv 1) (pa_cons (pv 2) pa_nil))) pa_nil))) (pa_cons (peFld K (pv 3)) pa_nil)))) rfl)
  (pss_one (ps_ret (pv 5))))))))), ?_⟩
  rintro args m d m' ⟨M, s0, l, x, hx, rfl, rfl, rfl, rfl⟩ -
  obtain ⟨h, s, es, ok, c⟩ := hx.pre
  have few := h.few
  have inr_ := inR h.map ok
  have inm := inM h.map ok c.mv
  let mem : List Mc := [sesM T M s0 l]
  let s2 : Sl := [some (.own 0), some (.dat (mvD x.p x.r)), some (.dat (.int (x.m : Nat))), some (.dat (momD T.C_Moment M s0 l)), some (.dat (stD s)), none]
  have st : DT K (tProp T.C_Session (spM K 1 (R_state T.C_Session T.C_Map T.C_Moment)) [] E0 (tVar 0)) [some (.own 0), some (.dat (mvD x.p x.r)), some (.dat (.int (x.m : Nat))), none, none, none] mem (.dat (stO (lastS M (some s0) l))) mem := dt_lookP T (dt_var (i := 0) rfl) rfl h rfl
  rw [es] at st
  refine .rt (ds_seq (ss1 := s2) (m1 := mem) (ds_parV (dav_cons (dt_now T (dt_var (i := 0) rfl) rfl) (dav_cons st dav_nil))) ?_)
  refine ds_guard' (m1 := mem) (db_b (dt_isN (d := stD s) (dt_var (i := 4) rfl))) ?_
  refine ds_seq (ss1 := s2) (m1 := mem) (ds_drop (dt_call (da_cons (dt_chart T (dt_var (i := 0) rfl) rfl) (da_cons (dt_var (i := 4) rfl) (da_cons (dt_var (i := 1) rfl) da_nil))) ⟨⟨M, s, x.p, x.r, rfl, inr_, mvD_in c.mv⟩, rfl⟩)) ?_
  refine ds_guard' (m1 := mem) (db_nt' (dt_call (da_cons (dt_var (i := 2) rfl) (da_cons dt_int (da_cons (dt_ixT (dt_var (i := 4) rfl) dt_int rfl) da_nil))) ⟨x.m, 0, s.l, rfl, bt' (by omega) c.late⟩)) ?_
  let s3 : Sl := s2.set 5 (some (.dat (stO (stepS M s x))))
  refine ds_seq (ss1 := s3) (m1 := mem) (ds_set (i := 5) (dt_ixL (dt_call (da_cons (dt_chart T (dt_var (i := 0) rfl) rfl) (da_cons (dt_var (i := 4) rfl) (da_cons (dt_var (i := 1) rfl) da_nil))) ⟨M, s, x.p, x.r, rfl, inm, rfl⟩) (dt_var (i := 2) rfl) (ends_at c))) ?_
  have ln : ((statesS M s0 l).map stO).length = l.length + 1 := by rw [List.length_map, ses_len h]
  have lp : (l.map prD).length = l.length := List.length_map ..
  have e1 : (statesS M s0 l).map stO ++ [stO (stepS M s x)] = (statesS M s0 (l ++ [x])).map stO := by rw [states_more es, List.map_append]; rfl
  have e2 : l.map prD ++ [prD x] = (l ++ [x]).map prD := by rw [List.map_append]; rfl
  have p1 := dt_catTup (K := K) (ss := s3) (mem := mem) (m1 := mem) (m2 := mem) (dt_states T (dt_var (i := 3) rfl)) (dt_tup (da_cons (dt_var (i := 5) rfl) da_nil)) (by show ((statesS M s0 l).map stO).length + 1 ≤ _; omega)
  have p2 := dt_catTup (K := K) (ss := s3) (mem := mem) (m1 := mem) (m2 := mem) (es := [prD x]) (dt_pairs T (dt_var (i := 3) rfl)) (dt_tup (da_cons (dt_tup (da_cons (dt_var (i := 1) rfl) (da_cons (dt_var (i := 2) rfl) da_nil))) da_nil)) (by show (l.map prD).length + 1 ≤ _; omega)
  rw [e1] at p1
  rw [e2] at p2
  refine ds_seq (ss1 := s3) (m1 := [sesM T M s0 (l ++ [x])]) (ds_fld (n := 0) (m2 := mem) (d := momD T.C_Moment M s0 (l ++ [x])) (dt_moment T (da_cons p1 (da_cons p2 (da_cons (dt_begin T (dt_var (i := 3) rfl)) da_nil)))) (dt_var (i := 0) rfl) rfl T.T_Session.cl T.na_Session__now (Nat.le_of_ble_eq_true rfl)) ?_
  rw [last_snoc es]
  exact ds_ret (dt_var (i := 5) rfl)
def R_undo (CS C CM : Addr) (args : List Vl) (m : Mc) (d : D) (m' : Mc) : Prop := ∃ M s0 l x, SesOk M s0 (l ++ [x]) ∧ args = [.own 0] ∧ m = .obj CS (sesFs C CM M s0 (l ++ [x])) ∧ d = prD x ∧ m' = .obj CS (sesFs C CM M s0 l)
/-- nothing can be taken back -/
def RX_undo (CS C CM CN : Addr) (args : List Vl) (m : Mc) (x : Xc) (m' : Mc) : Prop := ∃ M s0, SesOk M s0 [] ∧ args = [.own 0] ∧ m = .obj CS (sesFs C CM M s0 []) ∧ x = ⟨CN, none⟩ ∧ m' = m
theorem okx_Session_undo (T : Txt K mg) : FnOk P w K mg base (L2.CX P w) 3 T.a_Session_undo T.fd_Session_undo ["self"] (spX K 1 (oneR (R_undo T.C_Session T.C_Map T.C_Moment)) (oneX (RX_undo T.C_Session T.C_Map T.C_Moment T.C_NothingDone))) := by
  refine fnX T.F_Session_undo sc_Session_undo rfl (fun cdv A outer s H E hr => ?_)
  refine ⟨_, (pss_cons (ps_set (i := 1) sc_Session_undo.nd rfl (.inl rfl) (peFld K (pv 0)))
  (pss_cons (ps_set (i := 2) sc_Session_undo.nd rfl (.inl rfl) (pe_ifExp (pt_cmp (pc_isN (peFld K (pv 1)))) pe_int (pe_callB (callLen K) (by rfl) T.n_len PySem.boot_len (pa_cons (peFld K (peFld K (pv 1))) pa_nil))))
  (pss_cons (ps_if (pt_cmpR op_eq (pe_callB (callLen K) (by rfl) T.n_len PySem.boot_len (pa_cons (peFld K (pv 1)) pa_nil)) (pv 2) (nomark _)) (pss_one (ps_raise rfl takes_cx (pmk_own PySem.F.excBase_ValueError T.e_NothingDone T.g_NothingDone T.kp_NothingDone (raises_own T.sb_NothingDone T.ty_NothingDone) (by rfl)))) pss_nil)
  (pss_cons (ps_fld (pv 0) (pe_make T.mk_Moment (ok_Moment___init__ T) (hr.mono (by decide)) (by rfl) T.g_Moment T.b_Moment___init__ .nil pass0 (pa_cons (pe_slice (slT K) (peFld K (pv 1)) po_none (po_some (pe_un un_neg pe_int))) (pa_cons (pe_slice (slT K) (peFld K (pv 1)) po_none (po_some (pe_un un_neg pe_int))) (pa_cons (peFld K (pv 1)) pa_nil)))) rfl)
  (pss_one (ps_ret (pe_ix (ixT K) (peFld K (pv 1)) (pe_un un_neg pe_int) (fun _ _ => rfl)))))))), ?_, ?_⟩
  · rintro args mem d mem' ⟨_, _, rfl, rfl, M, s0, l, x, hx, rfl, rfl, rfl, rfl⟩ -
    obtain ⟨h, t, es, ok, c⟩ := hx.pre
    have few := h.few
    let mem : List Mc := [sesM T M s0 (l ++ [x])]
    let s2 : Sl := [some (.own 0), some (.dat (momD T.C_Moment M s0 (l ++ [x]))), some (.dat (.int 0))]
    have lp : ((l ++ [x]).map prD).length = l.length + 1 := by rw [List.length_map, List.length_append]; rfl
    refine .rt (ds_seq (ss1 := [some (.own 0), some (.dat (momD T.C_Moment M s0 (l ++ [x]))), none]) (m1 := mem) (ds_set (i := 1) (dt_now T (dt_var (i := 0) rfl) rfl)) ?_)
    refine ds_seq (ss1 := s2) (m1 := mem) (ds_set (i := 2) (dt_if_t (m1 := mem) (db_b (dt_isN (d := .non) (dt_begin T (dt_var (i := 1) rfl)))) dt_int)) ?_
    refine ds_seq (ss1 := s2) (m1 := mem) (ds_if_f (db_is (db_test (dt_eqI (dt_lenT (dt_pairs T (dt_var (i := 1) rfl))) (dt_var (i := 2) rfl))) (decide_eq_false (by rw [lp]; omega))) ds_next) ?_
    have e1 : (statesS M s0 (l ++ [x])).map stO = (statesS M s0 l).map stO ++ [stO (stepS M t x)] := by rw [states_more es, List.map_append]; rfl
    have e2 : (l ++ [x]).map prD = l.map prD ++ [prD x] := by rw [List.map_append]; rfl
    have p1 := dt_slT (K := K) (ss := s2) (mem := mem) (m1 := mem) (m2 := mem) (m3 := mem) (lo := none) (hi := some (-1)) (dt_states T (dt_var (i := 1) rfl)) do_none (do_some (dt_un dt_int))
    have p2 := dt_slT (K := K) (ss := s2) (mem := mem) (m1 := mem) (m2 := mem) (m3 := mem) (lo := none) (hi := some (-1)) (dt_pairs T (dt_var (i := 1) rfl)) do_none (do_some (dt_un dt_int))
    rw [e1, cut_init] at p1
    rw [e2, cut_init] at p2
    refine ds_seq (ss1 := s2) (m1 := [sesM T M s0 l]) (ds_fld (n := 0) (m2 := mem) (d := momD T.C_Moment M s0 l) (dt_moment T (da_cons p1 (da_cons p2 (da_cons (dt_begin T (dt_var (i := 1) rfl)) da_nil)))) (dt_var (i := 0) rfl) rfl T.T_Session.cl T.na_Session__now (Nat.le_of_ble_eq_true rfl)) ?_
    refine ds_ret (dt_ixT (dt_pairs T (dt_var (i := 1) rfl)) (dt_un dt_int) (at_last ?_))
    rw [e2, List.getLast?_append]
    rfl
  · rintro args mem y mem' ⟨_, _, rfl, rfl, M, s0, h, rfl, rfl, rfl, rfl⟩ -
    let mem : List Mc := [sesM T M s0 []]
    let s2 : Sl := [some (.own 0), some (.dat (momD T.C_Moment M s0 [])), some (.dat (.int 0))]
    refine ⟨s2, [], ?_⟩
    rw [List.append_nil]
    refine dx_seq (ss1 := [some (.own 0), some (.dat (momD T.C_Moment M s0 [])), none]) (m1 := mem) (ds_set (i := 1) (dt_now T (dt_var (i := 0) rfl) rfl)) ?_
    refine dx_seq (ss1 := s2) (m1 := mem) (ds_set (i := 2) (dt_if_t (m1 := mem) (db_b (dt_isN (d := .non) (dt_begin T (dt_var (i := 1) rfl)))) dt_int)) (dx_seq1 (dx_if_t (m1 := mem) (db_is (db_test (dt_eqI (dt_lenT (dt_pairs T (dt_var (i := 1) rfl))) (dt_var (i := 2) rfl))) (decide_eq_true rfl)) dx_raise))
theorem ok_Session_undo (T : Txt K mg) : FnOk P w K mg base CX0 3 T.a_Session_undo T.fd_Session_undo ["self"] (spM K 1 (R_undo T.C_Session T.C_Map T.C_Moment)) := DL.FnOk.quiet (okx_Session_undo T)
end
end K33
end
section
set_option Elab.async false
set_option linter.all false
set_option maxRecDepth 100000
set_option maxHeartbeats 4000000
namespace K33
open PySem PySem.Spec PyProof.Rows L2 DL
/-! ### branches, what is tried; the law's own walks -/
section
variable {P : Program} {w : World} {K : PySem.W.Frag} {mg : Str → Option Value} {base : Heap} {k : Nat}
theorem at_head {d : D} {ds : List D} : L2.atI (d :: ds) 0 = some d := by
  unfold L2.atI ixN
  simp
def R_branch (CS C CM : Addr) (args : List Vl) (m m' mn : Mc) : Prop := ∃ M s0 l, SesOk M s0 l ∧ args = [.own 0] ∧ m = .obj CS (sesFs C CM M s0 l) ∧ m' = m ∧ mn = m
theorem ok_Session_branch (T : Txt K mg) : FnOk P w K mg base CX0 6 T.a_Session_branch T.fd_Session_branch ["self"] (spMN K 1 (R_branch T.C_Session T.C_Map T.C_Moment)) := by
  refine fnMN T.F_Session_branch sc_Session_branch rfl (fun cdv A outer s H E hr => ?_)
  refine ⟨_, (pss_cons (ps_set (i := 1) sc_Session_branch.nd rfl (.inl rfl) (peFld K (pv 0)))
  (pss_cons (ps_set (i := 2) sc_Session_branch.nd rfl (.inl rfl) (pe_make T.mk_Session (ok_Session___init__ T) (hr.mono (by decide)) (by rfl) T.g_Session T.b_Session___init__ .nil pass0 (pa_cons (peFld K (pv 0)) (pa_cons (pe_ix (ixT K) (pe_ix (ixT K) (peFld K (pv 1)) pe_int (fun _ _ => rfl)) pe_int (fun _ _ => rfl)) pa_nil))))
  (pss_cons (ps_fld (pv 2) (pe_make T.mk_Moment (ok_Moment___init__ T) (hr.mono (by decide)) (by rfl) T.g_Moment T.b_Moment___init__ .nil pass0 (pa_cons (peFld K (pv 1)) (pa_cons (peFld K (pv 1)) (pa_cons pe_non pa_nil)))) rfl)
  (pss_one (ps_ret (pv 2)))))), ?_⟩
  rintro args m m' mn ⟨M, s0, l, h, rfl, rfl, rfl, rfl⟩ -
  have l0 := h.st.l0
  have l1 := h.st.l1
  let mem : List Mc := [sesM T M s0 l]
  let s1 : Sl := [some (.own 0), some (.dat (momD T.C_Moment M s0 l)), none]
  let s2 : Sl := [some (.own 0), some (.dat (momD T.C_Moment M s0 l)), some (.own 1)]
  refine ⟨0, [sesM T M s0 l], ?_, rfl⟩
  refine ds_seq (ss1 := s1) (m1 := mem) (ds_set (i := 1) (dt_now T (dt_var (i := 0) rfl) rfl)) ?_
  refine ds_seq (ss1 := s2) (m1 := [sesM T M s0 l, .obj T.C_Session (sesFs T.C_Map T.C_Moment M (firstS s0.l) [])]) (ds_set (i := 2) (dt_makeO (K := K) (ss := s1) (mem := mem) (m1 := mem) (da_cons (dt_chart T (dt_var (i := 0) rfl) rfl) (da_cons (dt_ixT (d := .int s0.l) (dt_ixT (d := stD s0) (dt_states T (dt_var (i := 1) rfl)) dt_int at_head) dt_int rfl) da_nil)) ⟨M, s0.l, l0, l1, rfl, rfl, rfl, rfl⟩)) ?_
  refine ds_seq (ss1 := s2) (m1 := [sesM T M s0 l, sesM T M s0 l]) (ds_fld (n := 1) (m2 := [sesM T M s0 l, .obj T.C_Session (sesFs T.C_Map T.C_Moment M (firstS s0.l) [])]) (d := momD T.C_Moment M s0 l) (dt_moment T (da_cons (dt_states T (dt_var (i := 1) rfl)) (da_cons (dt_pairs T (dt_var (i := 1) rfl)) (da_cons dt_non da_nil)))) (dt_var (i := 2) rfl) rfl T.T_Session.cl T.na_Session__now (Nat.le_of_ble_eq_true rfl)) ?_
  exact ds_ret (dt_var (i := 2) rfl)
def R_tried (sq : List D → D) (CS C CM : Addr) (args : List Vl) (m : Mc) (d : D) (m' : Mc) : Prop := ∃ M s0 l s x, SesOk M s0 l ∧ lastS M (some s0) l = some s ∧ LogOk M s x ∧ args = [.own 0, .dat (sq (x.map prD))] ∧ m = .obj CS (sesFs C CM M s0 l) ∧ d = .rls ((walkS M (some s) x).map stO) ∧ m' = m
theorem ok_Session_tried (T : Txt K mg) : FnOk P w K mg base CX0 9 T.a_Session_tried T.fd_Session_tried ["self", "log"] (spM K 2 (R_tried .lst T.C_Session T.C_Map T.C_Moment)) := by
  refine fnM T.F_Session_tried sc_Session_tried rfl (fun cdv A outer s H E hr => ?_)
  refine ⟨_, (pss_one (ps_ret (pe_call (ok_states_after T) (hr.mono (by decide)) (by rfl) T.g_states_after T.F_states_after.kp T.b_states_after .nil pass0 (pa_cons (peFld K (pv 0)) (pa_cons (pe_prop (pv 0) T.T_Session.cl T.PO_state (ok_Session_state T) (hr.mono (by decide)) T.b_Session_state .nil pass0 rfl) (pa_cons (pv 1) pa_nil)))))), ?_⟩
  rintro args m d m' ⟨M, s0, l, s, x, h, es, hx, rfl, rfl, rfl, rfl⟩ -
  have st : DT K (tProp T.C_Session (spM K 1 (R_state T.C_Session T.C_Map T.C_Moment)) [] E0 (tVar 0)) [some (.own 0), some (.dat (.lst (x.map prD)))] [sesM T M s0 l] (.dat (stO (lastS M (some s0) l))) [sesM T M s0 l] := dt_lookP T (dt_var (i := 0) rfl) rfl h rfl
  rw [es] at st
  exact .rt (ds_ret (dt_call (da_cons (dt_chart T (dt_var (i := 0) rfl) rfl) (da_cons st (da_cons (dt_var (i := 1) rfl) da_nil))) ⟨M, s, x, rfl, hx, rfl⟩))
theorem ok_Session_triedT (T : Txt K mg) : FnOk P w K mg base CX0 9 T.a_Session_tried T.fd_Session_tried ["self", "log"] (spM K 2 (R_tried .tup T.C_Session T.C_Map T.C_Moment)) := by
  refine fnM T.F_Session_tried sc_Session_tried rfl (fun cdv A outer s H E hr => ?_)
  refine ⟨_, (pss_one (ps_ret (pe_call (ok_states_afterT T) (hr.mono (by decide)) (by rfl) T.g_states_after T.F_states_after.kp T.b_states_after .nil pass0 (pa_cons (peFld K (pv 0)) (pa_cons (pe_prop (pv 0) T.T_Session.cl T.PO_state (ok_Session_state T) (hr.mono (by decide)) T.b_Session_state .nil pass0 rfl) (pa_cons (pv 1) pa_nil)))))), ?_⟩
  rintro args m d m' ⟨M, s0, l, s, x, h, es, hx, rfl, rfl, rfl, rfl⟩ -
  have st : DT K (tProp T.C_Session (spM K 1 (R_state T.C_Session T.C_Map T.C_Moment)) [] E0 (tVar 0)) [some (.own 0), some (.dat (.tup (x.map prD)))] [sesM T M s0 l] (.dat (stO (lastS M (some s0) l))) [sesM T M s0 l] := dt_lookP T (dt_var (i := 0) rfl) rfl h rfl
  rw [es] at st
  exact .rt (ds_ret (dt_call (da_cons (dt_chart T (dt_var (i := 0) rfl) rfl) (da_cons st (da_cons (dt_var (i := 1) rfl) da_nil))) ⟨M, s, x, rfl, hx, rfl⟩))
/-! the law: is nothing to be taken back? -/
def R_empty (CS C CM : Addr) (args : List Vl) (m : Mc) (d : D) (m' : Mc) : Prop := ∃ M s0, SesOk M s0 [] ∧ args = [.own 0] ∧ m = .obj CS (sesFs C CM M s0 []) ∧ d = .bl true ∧ m' = m
theorem ok__law_is_empty (T : Txt K mg) : FnOk P w K mg base CX0 5 T.a__law_is_empty T.fd__law_is_empty ["_law_session"] (spM K 1 (R_empty T.C_Session T.C_Map T.C_Moment)) := by
  refine fnM T.F__law_is_empty sc__law_is_empty rfl (fun cdv A outer s H E hr => ?_)
  refine ⟨_, (pss_one (ps_try_onlyE (pss_one (ps_ret pe_bl)) rfl rfl ⟨by rfl, by decide, .inl T.g_NothingDone⟩ takes0 (fun W pn xe tk own => (pss_one (ps_expr (pe_methS0 (pv 0) T.T_Session.cl T.M_Session_undo (okx_Session_undo T) (hr.mono (by decide)) T.b_Session_undo (fun σ => passAt tk σ))))) (fun a oe cls d pn hz hf => (pss_one (ps_ret pe_bl))))), ?_⟩
  rintro args m d m' ⟨M, s0, h, rfl, rfl, rfl, rfl⟩ -
  let tb : WX → TS := fun W => tDrop (tMethS T.C_Session "undo" (spX K 1 (oneR (R_undo T.C_Session T.C_Map T.C_Moment)) (oneX (RX_undo T.C_Session T.C_Map T.C_Moment T.C_NothingDone))) (WE W) (tVar 0) tNil)
  have hb : ∀ W : WX, DX K W (tb W) [some (.own 0)] [sesM T M s0 []] ⟨T.C_NothingDone, none⟩ [some (.own 0)] [sesM T M s0 []] := fun W => dx_drop (dtx_methS (n := 1) (p := 0) (ds := []) (m1 := [sesM T M s0 []]) (m2 := [sesM T M s0 []]) (R := oneR (R_undo T.C_Session T.C_Map T.C_Moment)) (RX := RX_undo T.C_Session T.C_Map T.C_Moment T.C_NothingDone) (m' := sesM T M s0 []) (dt_var (i := 0) rfl) rfl rfl da_nil rfl ⟨M, s0, h, rfl, rfl, rfl, rfl⟩)
  exact .rt (ds_tryE_x (tb := tb) hb T.xm_NothingDone_NothingDone fun a dd => ds_ret dt_bl)
end
end K33
end
section
set_option Elab.async false
set_option linter.all false
set_option maxRecDepth 100000
set_option maxHeartbeats 4000000
namespace K33
open PySem PySem.Spec PyProof.Rows L2 DL
/-! ### the law's own walks, costs; its look at a session -/
theorem flat_pr (x : Pr) : D.flat 3 (prD x) = true := by simp [prD, mvD, D.flat, D.flatAll]
theorem flat_prs (l : List Pr) : D.flat 4 (.lst (l.map prD)) = true := by
  rw [D.flat]
  exact flatAll_of fun d hd => by
    obtain ⟨x, -, rfl⟩ := List.mem_map.mp hd
    exact flat_pr x
theorem flat_stO (o : Option StD) : D.flat 3 (stO o) = true := by
  cases o <;> simp [stO, stD, D.flat, D.flatAll]
theorem at_nat {ds : List D} {i : Nat} {d : D} (h : ds[i]? = some d) : L2.atI ds (i : Nat) = some d := by
  have lt := (List.getElem?_eq_some_iff.mp h).1
  unfold L2.atI
  rw [show ixN ds.length (i : Nat) = some i by
    unfold ixN
    simp [lt]]
  exact h
/-- what a possible pair keeps -/
theorem CanP.road {M : MapD} {s : StD} {x : Pr} (c : CanP M s x) (hM : M.Ok) (hS : s.Ok M) : x.r < M.roads.length ∧ s.i + (x.p : Int) ≤ M.room ∧ x.m ≤ 4 ∧ x.p ≤ 6 ∧ (M.price s.p = none → x.p = 0) := by
  obtain ⟨h1, h2⟩ := mv_in c.mv
  have lt := lead_lt h2
  have l1 := hS.l1
  have i1 := hS.i1
  have i0 := hS.i0
  have m6 := hM.m6
  have late := c.late
  unfold MapD.most at h1
  refine ⟨lt, ?_, by omega, ?_, ?_⟩
  · split at h1 <;> omega
  · split at h1 <;> omega
  · intro e
    rw [if_pos e] at h1
    omega
section
variable {P : Program} {w : World} {K : PySem.W.Frag} {mg : Str → Option Value} {base : Heap} {k : Nat}
def R_walked (ds : List D) (d : D) : Prop := ∃ M s0 l, SesOk M s0 l ∧ ds = [netD M, stD s0, .lst (l.map prD)] ∧ d = .rls ((statesS M s0 l).map stO)
theorem ok__law_walked (T : Txt K mg) : FnOk P w K mg base CX0 3 T.a__law_walked T.fd__law_walked ["_law_net_here", "_law_state_here", "_law_past"] (spP K 3 R_walked) := by
  refine fnP T.F__law_walked sc__law_walked rfl (fun cdv A outer s H E hr => ?_)
  refine ⟨_, (pss_cons (ps_set (i := 3) sc__law_walked.nd rfl (.inl rfl) (pe_lst (pa_cons (pv 1) pa_nil)))
  (pss_cons (ps_for PassesOwn.never rfl (piList K (pv 2)) (pgTup K 2 (pgs_cons (pg_name (i := 4) sc__law_walked.nd rfl (.inl rfl)) (pgs_cons (pg_name (i := 5) sc__law_walked.nd rfl (.inl rfl)) pgs_nil))) (pss_one (ps_expr (pe_bm PySem.F.plainAttrs_list PySem.F.slot_list_append PySem.F.type_list_append mt_append (pv 3) (pa_cons (pe_call (ok__law_end T) (hr.mono (by decide)) (by rfl) T.g__law_end T.F__law_end.kp T.b__law_end .nil pass0 (pa_cons (pv 0) (pa_cons (pe_ix (ixL K) (pv 3) (pe_un un_neg pe_int) (fun _ _ => rfl)) (pa_cons (pv 4) (pa_cons (pv 5) pa_nil))))) pa_nil)))))
  (pss_one (ps_ret (pv 3))))), ?_⟩
  rintro ds d ⟨M, s0, l, h, rfl, rfl⟩ -
  have few := h.few
  have ln : (l.map prD).length = l.length := List.length_map ..
  let f : Nat → Sl := fun _ => [some (.dat (netD M)), some (.dat (stD s0)), some (.dat (.lst (l.map prD))), some (.own 0), none, none]
  let acc : Nat → List D := fun i => (statesS M s0 (l.take i)).map stO
  refine ⟨[.gone], .inl (ds_seq (ss1 := f 0) (m1 := [.lst [stD s0]]) (ds_set (i := 3) (dt_lstO (da_cons (dt_var (i := 1) rfl) da_nil))) ?_)⟩
  refine ds_seq (ss1 := f (l.map prD).length) (m1 := [.lst (acc (l.map prD).length)]) (ds_forG [4, 5] f (fun i => [.lst (acc i)]) rfl (by
    have e0 : acc 0 = [stD s0] := by
      show (statesS M s0 (l.take 0)).map stO = _
      rw [List.take_zero]
      rfl
    show DI K _ _ _ _ _ [.lst (acc 0)]
    rw [e0]
    exact di_list (dt_var (i := 2) rfl)) (fun _ => rfl) (fun _ => rfl) fun i hi => ?_) ?_
  · have hi : i < l.length := by omega
    obtain ⟨e1, ok1, c⟩ := h.at_ hi
    have pre : SesOk M s0 (l.take i) := ⟨h.map, h.st, trip_pre h.trip i (by omega), by rw [List.length_take]; omega⟩
    obtain ⟨c1, c2, c3, -, -⟩ := c.road h.map ok1
    rw [nth_in prD ⟨0, 0, 0⟩ hi]
    let f2 : Sl := [some (.dat (netD M)), some (.dat (stD s0)), some (.dat (.lst (l.map prD))), some (.own 0), some (.dat (mvD l[i].p l[i].r)), some (.dat (.int (l[i].m : Nat)))]
    have grow : acc (i + 1) = acc i ++ [stO (stepS M (atS M s0 l i) l[i])] := by
      show (statesS M s0 (l.take (i + 1))).map stO = (statesS M s0 (l.take i)).map stO ++ _
      rw [take_one hi, states_more e1, List.map_append]
      rfl
    have few2 : (acc i).length < 16777216 := by
      show ((statesS M s0 (l.take i)).map stO).length < _
      rw [List.length_map, ses_len pre, List.length_take]
      omega
    have here : L2.atI (acc i) (-1) = some (stD (atS M s0 l i)) := by
      have z := pre.last
      rw [e1] at z
      exact z
    have call := dt_call (K := K) (ss := f2) (mem := [.lst (acc i)]) (m1 := [.lst (acc i)]) (R := R_endN) (n := 4) (E := E0) (da_cons (dt_var (i := 0) rfl) (da_cons (dt_ixO (n := 0) (dt_var (i := 3) rfl) (dt_un dt_int) rfl here) (da_cons (dt_var (i := 4) rfl) (da_cons (dt_var (i := 5) rfl) da_nil)))) ⟨M, atS M s0 l i, l[i].p, l[i].r, l[i].m, rfl, h.map, c1, c2, c3, rfl⟩
    refine ⟨f2, _, f2, [], dg_tup (dgs_cons dg_name (dgs_cons dg_name dgs_nil)) rfl, ?_, rfl⟩
    rw [grow]
    exact ds_drop (r := .dat .non) (dt_append (n := 0) (ds := acc i) (m1 := [.lst (acc i)]) (m2 := [.lst (acc i)]) (dt_var (i := 3) rfl) (da_cons call da_nil) rfl rfl few2)
  · have e : acc (l.map prD).length = (statesS M s0 l).map stO := by
      show (statesS M s0 (l.take (l.map prD).length)).map stO = _
      rw [ln, List.take_length]
    rw [e]
    exact ds_ret (dt_frzR (n := 0) (m1 := [.lst ((statesS M s0 l).map stO)]) (dt_var (i := 3) rfl) rfl)
def R_price (ds : List D) (d : D) : Prop := ∃ M s0 l, SesOk M s0 l ∧ ds = [netD M, stD s0, .lst (l.map prD)] ∧ d = .lst ((costsS M s0 l).map .int)
theorem ok__law_price (T : Txt K mg) : FnOk P w K mg base CX0 4 T.a__law_price T.fd__law_price ["_law_net_here", "_law_state_here", "_law_past"] (spP K 3 R_price) := by
  refine fnP T.F__law_price sc__law_price rfl (fun cdv A outer s H E hr => ?_)
  refine ⟨_, (pss_cons (ps_set (i := 3) sc__law_price.nd rfl (.inr rfl) (pe_call (ok__law_walked T) (hr.mono (by decide)) (by rfl) T.g__law_walked T.F__law_walked.kp T.b__law_walked .nil pass0 (pa_cons (pv 0) (pa_cons (pv 1) (pa_cons (pv 2) pa_nil)))))
  (pss_one (ps_ret (pe_lc (own := [("_law_at", 4), ("_law_move", 5), ("_law_more", 6)]) rfl sc__law_price.nd (piEnumL K (by rfl) T.n_enumerate (pa_cons (pv 2) pa_nil)) (blkOk_by (own := [("_law_at", 4), ("_law_move", 5), ("_law_more", 6)]) (N := ["_law_net_here", "_law_state_here", "_law_past", "_law_spots", "_law_at", "_law_move", "_law_more"]) (sc := defScope s__law_price) (by decide +kernel)) (fun _ _ _ _ _ => (pgTup K 2 (pgs_cons (pg_name (i := 4) sc__law_price.nd rfl (.inl rfl)) (pgs_cons (pgTup K 2 (pgs_cons (pg_name (i := 5) sc__law_price.nd rfl (.inl rfl)) (pgs_cons (pg_name (i := 6) sc__law_price.nd rfl (.inl rfl)) pgs_nil))) pgs_nil)))) (fun _ _ _ _ _ => pts_nil) (fun _ _ _ _ _ => (pe_call (ok__law_cost T) (hr.mono (by decide)) (by rfl) T.g__law_cost T.F__law_cost.kp T.b__law_cost .nil pass0 (pa_cons (pv 0) (pa_cons (pe_ix (ixT K) (pe_ix (ixL K) (pv 3) (pv 4) (fun _ _ => rfl)) pe_int (fun _ _ => rfl)) (pa_cons (pv 5) pa_nil))))))))), ?_⟩
  rintro ds d ⟨M, s0, l, h, rfl, rfl⟩ -
  have few := h.few
  have ln : (l.map prD).length = l.length := List.length_map ..
  let s2 : Sl := [some (.dat (netD M)), some (.dat (stD s0)), some (.dat (.lst (l.map prD))), some (.dat (.rls ((statesS M s0 l).map stO))), none, none, none]
  refine .rt (ds_seq (ss1 := s2) (m1 := []) (ds_set (i := 3) (dt_call (da_cons (dt_var (i := 0) rfl) (da_cons (dt_var (i := 1) rfl) (da_cons (dt_var (i := 2) rfl) da_nil))) ⟨M, s0, l, h, rfl, rfl⟩)) (ds_ret ?_))
  have walk := di_enumL (K := K) (ss := s2) (mem := []) (m1 := []) (dt_var (i := 2) rfl)
  rw [ln] at walk
  unfold costsS
  rw [List.map_map]
  refine dt_lcMap walk _ (by omega) fun i hi => ?_
  obtain ⟨e1, ok1, c⟩ := h.at_ hi
  obtain ⟨c1, c2, c3, c4, c5⟩ := c.road h.map ok1
  rw [nth_in prD ⟨0, 0, 0⟩ hi]
  refine ⟨_, _, dg_tup (dgs_cons dg_name (dgs_cons (dg_tup (dgs_cons dg_name (dgs_cons dg_name dgs_nil)) rfl) dgs_nil)) rfl, by decide, ?_⟩
  have at_ : L2.atI ((statesS M s0 l).map stO) (i : Nat) = some (stD (atS M s0 l i)) := at_nat (by
    have e := states_get (M := M) h.trip (show i ≤ l.length by omega)
    rw [e1] at e
    rw [List.getElem?_map, show (statesS M s0 l)[i]? = _ from e]
    rfl)
  have p0 := ok1.p0
  have p1 := ok1.p1
  have pl := h.map.pl
  refine dt_call (da_cons (dt_var (i := 0) rfl) (da_cons (dt_ixT (dt_ixL (dt_rls (dt_var (i := 3) rfl)) (dt_var (i := 4) rfl) at_) dt_int rfl) (da_cons (dt_var (i := 5) rfl) da_nil))) ⟨M, (atS M s0 l i).p, l[i].p, l[i].r, rfl, p0, by omega, c4, price_bd h.map p0 (by omega), c5, ?_⟩
  show D.int (M.fee _ (l.getD i ⟨0, 0, 0⟩).p) = _
  rw [getD_at hi]
  rfl
section
variable {ss : Sl} {mem m1 m2 : List Mc} {ta tb : TE} {a b : Bool}
theorem dt_eqBB (ha : DT K ta ss mem (.dat (.bl a)) m1) (hb : DT K tb ss m1 (.dat (.bl b)) m2) : DT K (tOp rEq ta tb) ss mem (.dat (.bl (decide (a = b)))) m2 :=
  dt_op ha hb fun B H al σ v w Q S hv hw k => by
    cases hv
    cases hw
    refine ⟨rfl, k _ _ _ _ (Stp.refl _ _ _) S ?_⟩
    have e : decide (V.bl a = V.bl b) = decide (a = b) := by simp
    rw [e]
    exact .bl _
end
/-- the session is as the law's own walk has it -/
def R_right (CS C CM : Addr) (args : List Vl) (m : Mc) (d : D) (m' : Mc) : Prop := ∃ M s0 l, SesOk M s0 l ∧ args = [.own 0, .dat (netD M), .dat (stD s0), .dat (.lst (l.map prD))] ∧ m = .obj CS (sesFs C CM M s0 l) ∧ d = .bl true ∧ m' = m
theorem ok__law_right (T : Txt K mg) : FnOk P w K mg base CX0 8 T.a__law_right T.fd__law_right ["_law_session", "_law_net_here", "_law_start", "_law_past"] (spM K 4 (R_right T.C_Session T.C_Map T.C_Moment)) := by
  refine fnM T.F__law_right sc__law_right rfl (fun cdv A outer s H E hr => ?_)
  refine ⟨_, (pss_cons (ps_set (i := 4) sc__law_right.nd rfl (.inl rfl) (pe_ix (ixL K) (pe_call (ok__law_walked T) (hr.mono (by decide)) (by rfl) T.g__law_walked T.F__law_walked.kp T.b__law_walked .nil pass0 (pa_cons (pv 1) (pa_cons (pv 2) (pa_cons (pv 3) pa_nil)))) (pe_un un_neg pe_int) (fun _ _ => rfl)))
  (pss_cons (ps_if (pt_cmpR (opNeD K hr.units) (pe_prop (pv 0) T.T_Session.cl T.PO_journal (ok_Session_journal T) (hr.mono (by decide)) T.b_Session_journal .nil pass0 rfl) (pv 3) (nomark _)) (pss_one (ps_ret pe_bl)) pss_nil)
  (pss_cons (ps_if (pt_cmpR (opNeD K hr.units) (pe_lc (own := [("_law_note_here", 5)]) rfl sc__law_right.nd (pi_OT K T.M_Session___iter__ (its_Session T) T.b_Session___iter__ pass0 (hr.mono (by decide)) (pv 0)) (blkOk_by (own := [("_law_note_here", 5)]) (N := ["_law_session", "_law_net_here", "_law_start", "_law_past", "_law_state_here", "_law_note_here"]) (sc := defScope s__law_right) (by decide +kernel)) (fun _ _ _ _ _ => (pg_name (i := 5) sc__law_right.nd rfl (.inl rfl))) (fun _ _ _ _ _ => pts_nil) (fun _ _ _ _ _ => (pv 5))) (pv 3) (nomark _)) (pss_one (ps_ret pe_bl)) pss_nil)
  (pss_cons (ps_if (pt_cmpR op_ne (pe_callB (call_lenOwn T.L_Session (ok_Session___len__ T) (hr.mono (by decide)) T.b_Session___len__ pass0) (by rfl) T.n_len PySem.boot_len (pa_cons (pv 0) pa_nil)) (pe_callB (callLen K) (by rfl) T.n_len PySem.boot_len (pa_cons (pv 3) pa_nil)) (nomark _)) (pss_one (ps_ret pe_bl)) pss_nil)
  (pss_cons (ps_if (pt_cmpR (opNeD K hr.units) (pe_prop (pv 0) T.T_Session.cl T.PO_state (ok_Session_state T) (hr.mono (by decide)) T.b_Session_state .nil pass0 rfl) (pv 4) (nomark _)) (pss_one (ps_ret pe_bl)) pss_nil)
  (pss_one (ps_ret (pe_and (pe_cmpR op_eq (pe_meth0 (pv 0) T.T_Session.cl T.M_Session_is_there (ok_Session_is_there T) (hr.mono (by decide)) T.b_Session_is_there .nil pass0) (pe_and (pe_cmp (pc_notN (pv 4)) rfl) (pe_one (pe_cmpR op_eq (pe_ix (ixT K) (pv 4) pe_int (fun _ _ => rfl)) (pe_op op_sub (pe_ix (ixT K) (pv 1) pe_int (fun _ _ => rfl)) pe_int) (nomark _)))) (nomark _)) (pe_one (pe_cmpR op_eq (pe_meth0 (pv 0) T.T_Session.cl T.M_Session_paid (ok_Session_paid T) (hr.mono (by decide)) T.b_Session_paid .nil pass0) (pe_callB (callSum K rfl) (by rfl) T.n_sum (by decide +kernel) (pa_cons (pe_call (ok__law_price T) (hr.mono (by decide)) (by rfl) T.g__law_price T.F__law_price.kp T.b__law_price .nil pass0 (pa_cons (pv 1) (pa_cons (pv 2) (pa_cons (pv 3) pa_nil)))) pa_nil)) (nomark _))))))))))), ?_⟩
  rintro args m d m' ⟨M, s0, l, h, rfl, rfl, rfl, rfl⟩ -
  have few := h.few
  have ln : (l.map prD).length = l.length := List.length_map ..
  let mem : List Mc := [sesM T M s0 l]
  let e : Option StD := lastS M (some s0) l
  let s1 : Sl := [some (.own 0), some (.dat (netD M)), some (.dat (stD s0)), some (.dat (.lst (l.map prD))), none, none]
  let s2 : Sl := [some (.own 0), some (.dat (netD M)), some (.dat (stD s0)), some (.dat (.lst (l.map prD))), some (.dat (stO e)), none]
  refine .rt (ds_seq (ss1 := s2) (m1 := mem) (ds_set (i := 4) (dt_ixL (dt_rls (dt_call (da_cons (dt_var (i := 1) rfl) (da_cons (dt_var (i := 2) rfl) (da_cons (dt_var (i := 3) rfl) da_nil))) ⟨M, s0, l, h, rfl, rfl⟩)) (dt_un dt_int) h.last)) ?_)
  have jr : DT K (tProp T.C_Session (spM K 1 (R_journal T.C_Session T.C_Map T.C_Moment)) [] E0 (tVar 0)) s2 mem (.dat (.rls (l.map prD))) mem := dt_lookP T (dt_var (i := 0) rfl) rfl h rfl
  refine ds_guard' (m1 := mem) (db_test (dt_neD_same (n := 4) (dt_rls jr) (dt_var (i := 3) rfl) (flat_prs l))) ?_
  have walk := di_OTM (K := K) (ss := s2) (mem := mem) (m1 := mem) (p := 0) (C := T.C_Session) (C2 := T.C_Moment) (f := "_now") (g := "pairs") (gs := sesFs T.C_Map T.C_Moment M s0 l) (ds := l.map prD) (dt_var (i := 0) rfl) rfl rfl rfl
  rw [ln] at walk
  have all : DT K (tLc (tiOT K T.C_Session T.C_Moment "_now" "pairs" (tVar 0)) (gName 5) tYes (tVar 5) [5]) s2 mem (.dat (.lst (l.map prD))) mem := by
    have z := dt_lcMap (te := tVar 5) (vs := [5]) (g := gName 5) walk (fun i => nthD (l.map prD) i) (by omega) fun i hi => ⟨_, _, dg_name, by decide, dt_var (i := 5) rfl⟩
    have e : (List.range l.length).map (fun i => nthD (l.map prD) i) = l.map prD := by
      rw [← ln]
      exact range_get .non (l.map prD)
    rwa [e] at z
  refine ds_guard' (m1 := mem) (db_test (dt_neD_same (n := 4) all (dt_var (i := 3) rfl) (flat_prs l))) ?_
  have len : DT K (tCB (rLenOwn T.C_Session (spM K 1 (R_slen T.C_Session T.C_Map T.C_Moment)) E0) (tCons (tVar 0) tNil)) s2 mem (.dat (.int ((l.length : Nat) : Int))) mem := dt_lookN T (dt_var (i := 0) rfl) rfl h rfl (by omega) (by omega)
  refine ds_guard' (m1 := mem) (db_is (db_test (dt_neI len (dt_lenL (dt_var (i := 3) rfl)))) (by rw [ln]; simp)) ?_
  have st : DT K (tProp T.C_Session (spM K 1 (R_state T.C_Session T.C_Map T.C_Moment)) [] E0 (tVar 0)) s2 mem (.dat (stO e)) mem := dt_lookP T (dt_var (i := 0) rfl) rfl h rfl
  refine ds_guard' (m1 := mem) (db_test (dt_neD_same (n := 3) st (dt_var (i := 4) rfl) (flat_stO e))) (ds_ret ?_)
  have there : DT K (tMeth T.C_Session "is_there" (spM K 1 (R_there T.C_Session T.C_Map T.C_Moment)) [] E0 (tVar 0) tNil) s2 mem (.dat (.bl (thereS M e))) mem := dt_lookM T (dt_var (i := 0) rfl) rfl rfl h rfl
  have paid : DT K (tMeth T.C_Session "paid" (spM K 1 (R_paid T.C_Session T.C_Map T.C_Moment)) [] E0 (tVar 0) tNil) s2 mem (.dat (.int (costsS M s0 l).sum)) mem := dt_lookM T (dt_var (i := 0) rfl) rfl rfl h rfl
  have own : DT K (tAndV (tNotN (tVar 4)) (tOp rEq (tOp (rIxT K) (tVar 4) (tC (.int 0))) (tOp (rI0 fun a b => .int (a - b)) (tOp (rIxT K) (tVar 1) (tC (.int 0))) (tC (.int 1))))) s2 mem (.dat (.bl (thereS M e))) mem := by
    show DT K _ [some (.own 0), some (.dat (netD M)), some (.dat (stD s0)), some (.dat (.lst (l.map prD))), some (.dat (stO e)), none] mem _ _
    cases e with
    | none => exact dt_andV_f (dt_notN (d := .non) (dt_var (i := 4) rfl))
    | some z => exact dt_andV_t (b := M.done z) (m1 := mem) (dt_notN (d := stD z) (dt_var (i := 4) rfl)) (dt_eqI (dt_ixT (dt_var (i := 4) rfl) dt_int rfl) (dt_i0 (net0 (dt_var (i := 1) rfl)) dt_int))
  have both := dt_eqBB there own
  rw [decide_eq_true rfl] at both
  have sum := dt_eqI paid (dt_sumL (dt_call (K := K) (ss := s2) (mem := mem) (m1 := mem) (R := R_price) (n := 3) (E := E0) (da_cons (dt_var (i := 1) rfl) (da_cons (dt_var (i := 2) rfl) (da_cons (dt_var (i := 3) rfl) da_nil))) ⟨M, s0, l, h, rfl, rfl⟩))
  rw [decide_eq_true rfl] at sum
  exact dt_andV_t (b := true) (m1 := mem) both sum
end
end K33
end
section
set_option Elab.async false
set_option linter.all false
set_option maxRecDepth 100000
set_option maxHeartbeats 4000000
namespace K33
open PySem PySem.Spec PyProof.Rows L2 DL
/-! ### a drawn pair -/
def noteK (M : MapD) (ns : List Int) (n : Nat) (s : StD) : Nat := (tk ns n ((M.mv s).length : Nat) / 3).toNat
def noteM (M : MapD) (ns : List Int) (n : Nat) (s : StD) : Nat × Nat := (M.mv s).getD ((M.mv s).length - 1 - noteK M ns n s) (0, 0)
def noteX (M : MapD) (ns : List Int) (n : Nat) (s : StD) : Pr := ⟨(noteM M ns n s).1, (noteM M ns n s).2, (tk ns (n + 1) (s.l + 1)).toNat⟩
def noteF (M : MapD) (ns : List Int) (n : Nat) : Option StD → Option Pr × Nat
  | none => (none, n)
  | some s => if M.mv s = [] then (none, n) else (some (noteX M ns n s), n + 1 + 1)
def prO : Option Pr → D
  | none => .non
  | some x => prD x
theorem noteK_bd {M : MapD} {ns : List Int} {n : Nat} {s : StD} (h : M.mv s ≠ []) : noteK M ns n s < (M.mv s).length := by
  have pos : 0 < (M.mv s).length := List.length_pos_iff.mpr h
  obtain ⟨h0, h1⟩ := tk_bd (ns := ns) (n := n) (b := ((M.mv s).length : Nat)) (by omega)
  unfold noteK
  have : tk ns n ((M.mv s).length : Nat) / 3 ≤ tk ns n ((M.mv s).length : Nat) := Int.ediv_le_self _ h0
  omega
theorem noteX_ok {M : MapD} {ns : List Int} {n : Nat} {s : StD} (hS : s.Ok M) (h : M.mv s ≠ []) : CanP M s (noteX M ns n s) := by
  have kb := noteK_bd (ns := ns) (n := n) h
  have l0 := hS.l0
  obtain ⟨h0, h1⟩ := tk_bd (ns := ns) (n := n + 1) (b := s.l + 1) (by omega)
  refine ⟨?_, by show (((tk ns (n + 1) (s.l + 1)).toNat : Nat) : Int) ≤ s.l; omega⟩
  show noteM M ns n s ∈ M.mv s
  unfold noteM
  exact getD_in (by omega) (0, 0)
theorem noteF_ok {M : MapD} {ns : List Int} {n : Nat} {o : Option StD} {x : Pr} (h : (noteF M ns n o).1 = some x) (ok : ∀ s, o = some s → s.Ok M) : ∃ s, o = some s ∧ CanP M s x := by
  cases o with
  | none => cases h
  | some s =>
    by_cases e : M.mv s = []
    · rw [show noteF M ns n (some s) = (none, n) from if_pos e] at h
      cases h
    · rw [show noteF M ns n (some s) = (some (noteX M ns n s), n + 1 + 1) from if_neg e] at h
      cases h
      exact ⟨s, rfl, noteX_ok (ok s rfl) e⟩
theorem at_neg {ds : List D} {j : Nat} {d : D} (lt : j < ds.length) (h : ds[ds.length - 1 - j]? = some d) : L2.atI ds (-1 - (j : Int)) = some d := by
  unfold L2.atI
  rw [show ixN ds.length (-1 - (j : Int)) = some (ds.length - 1 - j) by
    unfold ixN
    have h1 : ¬ (0 ≤ (-1 - (j : Int))) := by omega
    rw [if_neg h1]
    rw [if_pos (by omega)]
    congr 1
    omega]
  exact h
section
variable {P : Program} {w : World} {K : PySem.W.Frag} {mg : Str → Option Value} {base : Heap} {k : Nat}
def R_note (m : Mc) (ds : List D) (d : D) (m' : Mc) : Prop := ∃ (M : MapD) (ns : List Int) (n : Nat) (o : Option StD), M.Ok ∧ (∀ s, o = some s → s.Ok M) ∧ m = drN ns n ∧ ds = [netD M, stO o, .int 3] ∧ d = prO (noteF M ns n o).1 ∧ m' = drN ns (noteF M ns n o).2
theorem ok__law_note (T : Txt K mg) : FnOk P w K mg base CX0 4 T.a__law_note T.fd__law_note ["_law_draws", "_law_net_here", "_law_state_here", "_law_most"] (spO K 4 R_note) := by
  refine fnO T.F__law_note sc__law_note rfl (fun cdv A outer s H E hr => ?_)
  refine ⟨_, (pss_cons (ps_set (i := 4) sc__law_note.nd rfl (.inl rfl) (pe_ifExp (pt_cmp (pc_isN (pv 2))) (pe_lst pa_nil) (pe_call (ok__law_moves T) (hr.mono (by decide)) (by rfl) T.g__law_moves T.F__law_moves.kp T.b__law_moves .nil pass0 (pa_cons (pv 1) (pa_cons (pv 2) pa_nil)))))
  (pss_cons (ps_if (pt_cmpR (opEqD K hr.units) (pv 4) (pe_lst pa_nil) (nomark _)) (pss_one (ps_ret pe_non)) pss_nil)
  (pss_cons (ps_set (i := 5) sc__law_note.nd rfl (.inl rfl) (pe_call (ok__law_take T) (hr.mono (by decide)) (by rfl) T.g__law_take T.F__law_take.kp T.b__law_take .nil pass0 (pa_cons (pv 0) (pa_cons (pe_callB (callLen K) (by rfl) T.n_len PySem.boot_len (pa_cons (pv 4) pa_nil)) pa_nil))))
  (pss_one (ps_ret (pe_tup (pa_cons (pe_ix (ixL K) (pv 4) (pe_op op_sub (pe_un un_neg pe_int) (pe_op op_fdivW (pv 5) (pv 3))) (fun _ _ => rfl)) (pa_cons (pe_call (ok__law_take T) (hr.mono (by decide)) (by rfl) T.g__law_take T.F__law_take.kp T.b__law_take .nil pass0 (pa_cons (pv 0) (pa_cons (pe_op op_add (pe_ix (ixT K) (pv 2) pe_int (fun _ _ => rfl)) pe_int) pa_nil))) pa_nil)))))))), ?_⟩
  rintro m ds d m' ⟨M, ns, n, o, hM, ho, rfl, rfl, rfl, rfl⟩ -
  cases o with
  | none =>
    let s1 : Sl := [some (.own 0), some (.dat (netD M)), some (.dat .non), some (.dat (.int 3)), none, none]
    let s2 : Sl := [some (.own 0), some (.dat (netD M)), some (.dat .non), some (.dat (.int 3)), some (.dat (.lst [])), none]
    refine .rt (ds_seq (ss1 := s2) (m1 := [drN ns n]) (ds_set (i := 4) (dt_if_t (m1 := [drN ns n]) (db_b (dt_isN (d := .non) (dt_var (i := 2) rfl))) (dt_lst da_nil))) ?_)
    have same := dt_eqD (K := K) (ss := s2) (mem := [drN ns n]) (m1 := [drN ns n]) (m2 := [drN ns n]) (n := 1) (d := .lst []) (e := .lst []) (dt_var (i := 4) rfl) (dt_lst da_nil) rfl rfl
    exact ds_stop (ds_if_t (db_is (db_test same) (by decide)) (ds_ret dt_non))
  | some s =>
    have hS := ho s rfl
    have l0 := hS.l0
    let able : List D := (M.mv s).map fun m => mvD m.1 m.2
    have la : able.length = (M.mv s).length := List.length_map ..
    let s2 : Sl := [some (.own 0), some (.dat (netD M)), some (.dat (stD s)), some (.dat (.int 3)), some (.dat (.lst able)), none]
    refine .rt (ds_seq (ss1 := s2) (m1 := [drN ns n]) (ds_set (i := 4) (dt_if_f (m1 := [drN ns n]) (db_b (dt_isN (d := stD s) (dt_var (i := 2) rfl))) (dt_call (da_cons (dt_var (i := 1) rfl) (da_cons (dt_var (i := 2) rfl) da_nil)) ⟨M, s, rfl, hM, hS, rfl⟩))) ?_)
    have fl : D.flat 2 (.lst able) = true := by
      rw [D.flat]
      exact flatAll_of fun d hd => by
        obtain ⟨m, -, rfl⟩ := List.mem_map.mp hd
        simp [mvD, D.flat, D.flatAll]
    have same := dt_eqD (K := K) (ss := s2) (mem := [drN ns n]) (m1 := [drN ns n]) (m2 := [drN ns n]) (n := 2) (d := .lst able) (e := .lst []) (dt_var (i := 4) rfl) (dt_lst da_nil) fl rfl
    show DS K _ _ _ (.rt (.dat (prO (noteF M ns n (some s)).1)) [drN ns (noteF M ns n (some s)).2])
    by_cases e : M.mv s = []
    · have en : noteF M ns n (some s) = (none, n) := if_pos e
      rw [en]
      have ea : able = [] := by
        show (M.mv s).map _ = []
        rw [e]
        rfl
      rw [ea] at same
      refine ds_stop (ds_if_t (db_is (db_test same) (by decide)) (ds_ret dt_non))
    · have en : noteF M ns n (some s) = (some (noteX M ns n s), n + 1 + 1) := if_neg e
      rw [en]
      have pos : 0 < (M.mv s).length := List.length_pos_iff.mpr e
      have kb := noteK_bd (ns := ns) (n := n) e
      obtain ⟨t0, t1⟩ := tk_bd (ns := ns) (n := n) (b := ((M.mv s).length : Nat)) (by omega)
      obtain ⟨u0, u1⟩ := tk_bd (ns := ns) (n := n + 1) (b := s.l + 1) (by omega)
      have ne : PyData.eqv (D.lst able).py (D.lst []).py = false := by
        cases q : able with
        | nil => rw [q] at la; exact absurd la.symm (by simp; omega)
        | cons a as => simp [D.py, D.pyAll, PyData.eqv, PyData.eqvAll]
      refine ds_guard' (m1 := [drN ns n]) (db_is (db_test same) ne) ?_
      have take1 := dt_take (K := K) (E := E0) (ss := s2) (mem := [drN ns n]) (m1 := [drN ns n]) (ns := ns) (n := n) (b := ((M.mv s).length : Nat)) (o := 0) (to := tVar 0) (dt_var (i := 0) rfl) (la ▸ dt_lenL (ds := able) (dt_var (i := 4) rfl)) rfl (by omega)
      let s3 : Sl := [some (.own 0), some (.dat (netD M)), some (.dat (stD s)), some (.dat (.int 3)), some (.dat (.lst able)), some (.dat (.int (tk ns n ((M.mv s).length : Nat))))]
      refine ds_seq (ss1 := s3) (m1 := [drN ns (n + 1)]) (ds_set (i := 5) take1) (ds_ret ?_)
      have item : L2.atI able (-1 - tk ns n ((M.mv s).length : Nat) / 3) = some (mvD (noteX M ns n s).p (noteX M ns n s).r) := by
        have ek : tk ns n ((M.mv s).length : Nat) / 3 = ((noteK M ns n s : Nat) : Int) := by
          unfold noteK
          have : 0 ≤ tk ns n ((M.mv s).length : Nat) / 3 := Int.ediv_nonneg t0 (by decide)
          omega
        rw [ek]
        refine at_neg (by omega) ?_
        rw [la, List.getElem?_map]
        show ((M.mv s)[(M.mv s).length - 1 - noteK M ns n s]?).map (fun m => mvD m.1 m.2) = _
        rw [List.getElem?_eq_getElem (by omega)]
        show some (mvD _ _) = some (mvD (noteM M ns n s).1 (noteM M ns n s).2)
        unfold noteM
        rw [getD_at (by omega)]
      have idx : DT K (tOp (rI0 fun a b => .int (a - b)) (tUn (rU fun a => .int (-a)) (tC (.int 1))) (tOp (rI CDivW fun i j => .int (i / j)) (tVar 5) (tVar 3))) s3 [drN ns (n + 1)] (.dat (.int (-1 - tk ns n ((M.mv s).length : Nat) / 3))) [drN ns (n + 1)] := dt_i0 (dt_un dt_int) (dt_ic (dt_var (i := 5) rfl) (dt_var (i := 3) rfl) ⟨by decide, by decide +kernel⟩)
      have take2 := dt_take (K := K) (E := E0) (ss := s3) (mem := [drN ns (n + 1)]) (m1 := [drN ns (n + 1)]) (ns := ns) (n := n + 1) (b := s.l + 1) (o := 0) (to := tVar 0) (dt_var (i := 0) rfl) (dt_i0 (g := fun a b => a + b) (i := s.l) (dt_ixT (i := 3) (dt_var (i := 2) rfl) dt_int rfl) (dt_int (i := 1))) rfl (by omega)
      have em : D.int (tk ns (n + 1) (s.l + 1)) = .int (((noteX M ns n s).m : Nat) : Int) := by
        show D.int _ = .int (((tk ns (n + 1) (s.l + 1)).toNat : Nat) : Int)
        rw [Int.toNat_of_nonneg u0]
      rw [em] at take2
      exact dt_tup (da_cons (dt_ixL (dt_var (i := 4) rfl) idx item) (da_cons take2 da_nil))
end
end K33
end
section
set_option Elab.async false
set_option linter.all false
set_option maxRecDepth 100000
set_option maxHeartbeats 4000000
namespace K33
open PySem PySem.Spec PyProof.Rows L2 DL
/-! ### a branch that goes on by itself -/
section
variable {K : PySem.W.Frag} {ss : Sl} {mem m1 m2 : List Mc} {ta tb : TE} {d e : D}
theorem dt_eqD_one {n : Nat} (ha : DT K ta ss mem (.dat d) m1) (hb : DT K tb ss m1 (.dat d) m2) (hd : D.flat n d = true) (hn : n ≤ 64 := by decide) : DT K (tOp (rEqD K) ta tb) ss mem (.dat (.bl true)) m2 := by
  have h := dt_eqD ha hb hd hd hn
  rw [eqv_self hd] at h
  exact h
end
theorem eqv_nil {d : D} {ds : List D} : PyData.eqv (D.lst (d :: ds)).py (D.lst []).py = false := by simp [D.py, D.pyAll, PyData.eqv, PyData.eqvAll]
theorem log_one {M : MapD} {s t : StD} {x : Pr} (hM : M.Ok) (hS : s.Ok M) (c : CanP M s x) (e : stepS M s x = some t) : LogOk M s [x] := ⟨hM, hS, ⟨c, trivial⟩, by show 1 ≤ 12; decide, t, e⟩
theorem log_nil {M : MapD} {s : StD} (hM : M.Ok) (hS : s.Ok M) : LogOk M s [] := ⟨hM, hS, trivial, by show 0 ≤ 12; decide, s, rfl⟩
section
variable {P : Program} {w : World} {K : PySem.W.Frag} {mg : Str → Option Value} {base : Heap} {k : Nat}
def R_branchR (CS C CM : Addr) (args : List Vl) (m : Mc) (d : D) (m' : Mc) : Prop := ∃ M s0 l x, SesOk M s0 (l ++ [x]) ∧ args = [.own 0, .dat (netD M), .dat (stD s0), .dat (.rls (l.map prD)), .dat (prD x)] ∧ m = .obj CS (sesFs C CM M s0 l) ∧ d = .bl true ∧ m' = m
section
variable {ss : Sl} {mem m1 m2 : List Mc} {ta : TE} {t : TA} {p : Nat} {M : MapD} {s0 : StD} {l : List Pr}
/-- the law's look, one session among the own objects -/
theorem dt_right (T : Txt K mg) {tn tt tp : TE} (ho : DT K ta ss mem (.own p) mem) (hn : DT K tn ss mem (.dat (netD M)) mem) (hs : DT K tt ss mem (.dat (stD s0)) mem) (hl : DT K tp ss mem (.dat (.lst (l.map prD))) m1) (h : SesOk M s0 l) (hm : m1[p]? = some (sesM T M s0 l)) :
    DT K (tCall (spM K 4 (R_right T.C_Session T.C_Map T.C_Moment)) [] E0 (tCons ta (tCons tn (tCons tt (tCons tp tNil))))) ss mem (.dat (.bl true)) m1 := by
  have z := dt_callM (K := K) (p := p) (R := R_right T.C_Session T.C_Map T.C_Moment) (E := E0) (n := 4) (m := sesM T M s0 l) (m' := sesM T M s0 l) (d := .bl true) (dav_cons ho (dav_cons hn (dav_cons hs (dav_cons hl dav_nil)))) (fun q hq => by
    simp only [List.mem_cons, List.not_mem_nil, or_false] at hq
    rcases hq with rfl | rfl | rfl | rfl
    · exact .inr rfl
    · exact .inl ⟨_, rfl⟩
    · exact .inl ⟨_, rfl⟩
    · exact .inl ⟨_, rfl⟩) hm ⟨M, s0, l, h, rfl, rfl, rfl, rfl⟩
  rwa [set_same' hm] at z
end
theorem ok__law_branch_right (T : Txt K mg) : FnOk P w K mg base CX0 10 T.a__law_branch_right T.fd__law_branch_right ["_law_session", "_law_net_here", "_law_start", "_law_past", "_law_note_here"] (spM K 5 (R_branchR T.C_Session T.C_Map T.C_Moment)) := by
  refine fnM T.F__law_branch_right sc__law_branch_right rfl (fun cdv A outer s H E hr => ?_)
  refine ⟨_, (pss_cons (ps_par (i := 5) (j := 6) (by rfl) sc__law_branch_right.nd rfl rfl (by decide) rfl rfl (pa_cons (pe_meth0 (pv 0) T.T_Session.cl T.M_Session_branch (ok_Session_branch T) (hr.mono (by decide)) T.b_Session_branch .nil pass0) (pa_cons (pe_ix (ixL K) (pe_call (ok__law_walked T) (hr.mono (by decide)) (by rfl) T.g__law_walked T.F__law_walked.kp T.b__law_walked .nil pass0 (pa_cons (pv 1) (pa_cons (pv 2) (pa_cons (pe_op op_cat (pv 3) (pe_lst (pa_cons (pv 4) pa_nil))) pa_nil)))) (pe_un un_neg pe_int) (fun _ _ => rfl)) pa_nil)) (by rfl))
  (pss_cons (ps_if (pt_cmpR (opNeD K hr.units) (pe_meth (pv 5) T.T_Session.cl T.M_Session_drive (ok_Session_drive T) (hr.mono (by decide)) T.b_Session_drive .nil pass0 (pa_cons (pe_ix (ixT K) (pv 4) pe_int (fun _ _ => rfl)) (pa_cons (pe_ix (ixT K) (pv 4) pe_int (fun _ _ => rfl)) pa_nil))) (pv 6) (nomark _)) (pss_one (ps_ret pe_bl)) pss_nil)
  (pss_cons (ps_if (pt_not (pt_val (pe_call (ok__law_right T) (hr.mono (by decide)) (by rfl) T.g__law_right T.F__law_right.kp T.b__law_right .nil pass0 (pa_cons (pv 5) (pa_cons (pv 1) (pa_cons (pv 2) (pa_cons (pe_op op_cat (pv 3) (pe_lst (pa_cons (pv 4) pa_nil))) pa_nil))))))) (pss_one (ps_ret pe_bl)) pss_nil)
  (pss_cons (ps_if (pt_not (pt_val (pe_call (ok__law_right T) (hr.mono (by decide)) (by rfl) T.g__law_right T.F__law_right.kp T.b__law_right .nil pass0 (pa_cons (pv 0) (pa_cons (pv 1) (pa_cons (pv 2) (pa_cons (pv 3) pa_nil))))))) (pss_one (ps_ret pe_bl)) pss_nil)
  (pss_cons (ps_if (PW.pt (pw_or (pt_cmpR (opNeD K hr.units) (pe_meth0 (pv 5) T.T_Session.cl T.M_Session_undo (ok_Session_undo T) (hr.mono (by decide)) T.b_Session_undo .nil pass0) (pv 4) (nomark _)) (pw_or1 (PW.pt (pw_and (pt_cmpR (opNeD K hr.units) (pv 3) (pe_lst pa_nil) (nomark _)) (pw_and1 (pt_cmpR (opNeD K hr.units) (pe_meth0 (pv 5) T.T_Session.cl T.M_Session_undo (ok_Session_undo T) (hr.mono (by decide)) T.b_Session_undo .nil pass0) (pe_ix (ixL K) (pv 3) (pe_un un_neg pe_int) (fun _ _ => rfl)) (nomark _)))))))) (pss_one (ps_ret pe_bl)) pss_nil)
  (pss_cons (ps_if (PW.pt (pw_and (pt_cmp (pc_notN (pv 6))) (pw_and1 (pt_cmpR (opNeD K hr.units) (pe_meth (pv 0) T.T_Session.cl T.M_Session_tried (ok_Session_triedT T) (hr.mono (by decide)) T.b_Session_tried .nil pass0 (pa_cons (pe_tup (pa_cons (pv 4) pa_nil)) pa_nil)) (pe_lst (pa_cons (pv 6) pa_nil)) (nomark _))))) (pss_one (ps_ret pe_bl)) pss_nil)
  (pss_one (ps_ret (pe_and (pe_cmpR (opEqD K hr.units) (pe_meth (pv 0) T.T_Session.cl T.M_Session_tried (ok_Session_tried T) (hr.mono (by decide)) T.b_Session_tried .nil pass0 (pa_cons (pe_lst pa_nil) pa_nil)) (pe_lst pa_nil) (nomark _)) (pe_one (pe_call (ok__law_right T) (hr.mono (by decide)) (by rfl) T.g__law_right T.F__law_right.kp T.b__law_right .nil pass0 (pa_cons (pv 0) (pa_cons (pv 1) (pa_cons (pv 2) (pa_cons (pv 3) pa_nil))))))))))))))), ?_⟩
  rintro args m d m' ⟨M, s0, l, x, hx, rfl, rfl, rfl, rfl⟩ -
  obtain ⟨h, s, es, ok, c⟩ := hx.pre
  have few := h.few
  have ln : (l.map prD).length = l.length := List.length_map ..
  let e : Option StD := lastS M (some s0) (l ++ [x])
  have ee : e = stepS M s x := last_snoc es
  let one : Mc := sesM T M s0 l
  let two : Mc := sesM T M s0 (l ++ [x])
  let s1 : Sl := [some (.own 0), some (.dat (netD M)), some (.dat (stD s0)), some (.dat (.rls (l.map prD))), some (.dat (prD x)), none, none]
  let s2 : Sl := [some (.own 0), some (.dat (netD M)), some (.dat (stD s0)), some (.dat (.rls (l.map prD))), some (.dat (prD x)), some (.own 1), some (.dat (stO e))]
  have more : ∀ {ss : Sl} {mem : List Mc}, ss[3]? = some (some (.dat (.rls (l.map prD)))) → ss[4]? = some (some (.dat (prD x))) → DT K (tOp rCat (tVar 3) (tLst (tCons (tVar 4) tNil))) ss mem (.dat (.lst ((l ++ [x]).map prD))) mem := fun {ss mem} h3 h4 => by
    have z := dt_catRR (K := K) (ss := ss) (mem := mem) (m1 := mem) (m2 := mem) (es := [prD x]) (dt_var (i := 3) h3) (dt_tlR (dt_lstT (da_cons (dt_var (i := 4) h4) da_nil))) (by rw [ln]; show _ + 1 ≤ _; omega)
    rw [show l.map prD ++ [prD x] = (l ++ [x]).map prD by rw [List.map_append]; rfl] at z
    exact dt_rls z
  have undo2 : DT K (tMeth T.C_Session "undo" (spM K 1 (R_undo T.C_Session T.C_Map T.C_Moment)) [] E0 (tVar 5) tNil) s2 [one, two] (.dat (prD x)) [one, one] := dt_methM (K := K) (p := 1) (ds := []) (m1 := [one, two]) (m2 := [one, two]) (m' := one) (R := R_undo T.C_Session T.C_Map T.C_Moment) (dt_var (i := 5) rfl) rfl rfl da_nil rfl ⟨M, s0, l, x, hx, rfl, rfl, rfl, rfl⟩
  obtain ⟨mc, hB⟩ : ∃ mc, DB K (tAnd (tTest (tOp (rNeD K) (tVar 3) (tLst tNil))) (tTest (tOp (rNeD K) (tMeth T.C_Session "undo" (spM K 1 (R_undo T.C_Session T.C_Map T.C_Moment)) [] E0 (tVar 5) tNil) (tOp (rIxL K) (tVar 3) (tUn (rU fun a => .int (-a)) (tC (.int 1))))))) s2 [one, one] false [one, mc] := by
    have same := dt_neD (K := K) (ss := s2) (mem := [one, one]) (m1 := [one, one]) (m2 := [one, one]) (n := 4) (e := .lst []) (dt_rls (dt_var (i := 3) rfl)) (dt_lst da_nil) (flat_prs l) rfl
    rcases List.eq_nil_or_concat l with q | ⟨l', y, q⟩
    · subst q
      exact ⟨one, db_and_f (db_is (db_test same) (by decide))⟩
    · rw [List.concat_eq_append] at q
      have hy : SesOk M s0 (l' ++ [y]) := q ▸ h
      have en : PyData.eqv (D.lst (l.map prD)).py (D.lst []).py = false := by
        cases r : l.map prD with
        | nil =>
          rw [q, List.map_append] at r
          exact absurd r (by simp)
        | cons a as => exact eqv_nil
      refine ⟨sesM T M s0 l', db_and_t (m1 := [one, one]) (db_is (db_test same) (by rw [en]; rfl)) (db_test (dt_neD_same (n := 3) (d := prD y) (m1 := [one, sesM T M s0 l']) (dt_methM (K := K) (p := 1) (ds := []) (m1 := [one, one]) (m2 := [one, one]) (m' := sesM T M s0 l') (R := R_undo T.C_Session T.C_Map T.C_Moment) (dt_var (i := 5) rfl) rfl rfl da_nil rfl ⟨M, s0, l', y, hy, rfl, by rw [← q], rfl, rfl⟩) (dt_ixL (dt_rls (dt_var (i := 3) rfl)) (dt_un dt_int) (at_last ?_)) (flat_pr y)))⟩
      rw [q, List.map_append, List.getLast?_append]
      rfl
  refine ⟨[mc], .inl ?_⟩
  -- the branch, and the state that comes
  refine ds_seq (ss1 := s2) (m1 := [one, one]) (ds_parV (dav_cons (dt_methN (K := K) (ss := s1) (mem := [one]) (m1 := [one]) (m2 := [one]) (p := 0) (ds := []) (R := R_branch T.C_Session T.C_Map T.C_Moment) (m' := one) (mN := one) (dt_var (i := 0) rfl) rfl rfl da_nil rfl ⟨M, s0, l, h, rfl, rfl, rfl, rfl⟩) (dav_cons (dt_ixL (dt_rls (dt_call (da_cons (dt_var (i := 1) rfl) (da_cons (dt_var (i := 2) rfl) (da_cons (more rfl rfl) da_nil))) ⟨M, s0, l ++ [x], hx, rfl, rfl⟩)) (dt_un dt_int) hx.last) dav_nil))) ?_
  -- it goes on
  refine ds_guard' (m1 := [one, two]) (db_test (dt_neD_same (n := 3) (m1 := [one, two]) (dt_methM (K := K) (p := 1) (ds := [mvD x.p x.r, .int (x.m : Nat)]) (m1 := [one, one]) (m2 := [one, one]) (m' := two) (R := R_drive T.C_Session T.C_Map T.C_Moment) (dt_var (i := 5) rfl) rfl rfl (da_cons (dt_ixT (dt_var (i := 4) rfl) dt_int rfl) (da_cons (dt_ixT (dt_var (i := 4) rfl) dt_int rfl) da_nil)) rfl ⟨M, s0, l, x, hx, rfl, rfl, rfl, rfl⟩) (dt_var (i := 6) rfl) (flat_stO e))) ?_
  refine ds_guard' (m1 := [one, two]) (db_nt' (dt_right T (p := 1) (dt_var (i := 5) rfl) (dt_var (i := 1) rfl) (dt_var (i := 2) rfl) (more rfl rfl) hx rfl)) ?_
  refine ds_guard' (m1 := [one, two]) (db_nt' (dt_right T (p := 0) (dt_var (i := 0) rfl) (dt_var (i := 1) rfl) (dt_var (i := 2) rfl) (dt_rls (dt_var (i := 3) rfl)) h rfl)) ?_
  refine ds_guard' (m1 := [one, mc]) (db_or_f (m1 := [one, one]) (db_test (dt_neD_same (n := 3) undo2 (dt_var (i := 4) rfl) (flat_pr x))) hB) ?_
  -- what is tried
  have tried : ∀ {sq : List D → D} {ta : TE} {y : List Pr}, DT K ta s2 [one, mc] (.dat (sq (y.map prD))) [one, mc] → LogOk M s y → DT K (tMeth T.C_Session "tried" (spM K 2 (R_tried sq T.C_Session T.C_Map T.C_Moment)) [] E0 (tVar 0) (tCons ta tNil)) s2 [one, mc] (.dat (.rls ((walkS M (some s) y).map stO))) [one, mc] := fun {sq ta y} hy ly =>
    dt_methM (K := K) (p := 0) (ds := [sq (y.map prD)]) (m1 := [one, mc]) (m2 := [one, mc]) (m' := one) (R := R_tried sq T.C_Session T.C_Map T.C_Moment) (dt_var (i := 0) rfl) rfl rfl (da_cons hy da_nil) rfl ⟨M, s0, l, s, y, h, es, ly, rfl, rfl, rfl, rfl⟩
  refine ds_guard' (m1 := [one, mc]) (?_ : DB K _ s2 [one, mc] false [one, mc]) (ds_ret (dt_andV_t (b := true) (m1 := [one, mc]) (dt_eqD_one (n := 1) (dt_rls (tried (sq := .lst) (y := []) (dt_lst da_nil) (log_nil h.map ok))) (dt_lst da_nil) rfl) (dt_right T (p := 0) (dt_var (i := 0) rfl) (dt_var (i := 1) rfl) (dt_var (i := 2) rfl) (dt_rls (dt_var (i := 3) rfl)) h rfl)))
  cases q : e with
  | none =>
    have z : DT K (tNotN (tVar 6)) s2 [one, mc] (.dat (.bl (!(stO e).isN))) [one, mc] := dt_notN (dt_var (i := 6) rfl)
    rw [q] at z
    exact db_and_f (db_b z)
  | some t =>
    have z : DT K (tNotN (tVar 6)) s2 [one, mc] (.dat (.bl (!(stO e).isN))) [one, mc] := dt_notN (dt_var (i := 6) rfl)
    rw [q] at z
    have one_ := tried (sq := .tup) (y := [x]) (dt_tup (da_cons (dt_var (i := 4) rfl) da_nil)) (log_one h.map ok c (ee.symm.trans q))
    have ew : (walkS M (some s) [x]).map stO = [stO e] := by
      show [stO (stepS M s x)] = _
      rw [ee]
    rw [ew] at one_
    refine db_and_t (m1 := [one, mc]) (db_b z) (db_test (dt_neD_same (n := 4) (dt_rls one_) (dt_lst (da_cons (dt_var (i := 6) rfl) da_nil)) ?_))
    rw [D.flat]
    show (D.flat 3 (stO e) && true) = true
    rw [flat_stO]
    rfl
end
end K33
end
section
set_option Elab.async false
set_option linter.all false
set_option maxRecDepth 100000
set_option maxHeartbeats 4000000
namespace K33
open PySem PySem.Spec PyProof.Rows L2 DL
/-! ### the law's look at a log -/
/-- the draws so far, the log, the state now -/
structure Lg where
  n : Nat
  l : List Pr
  t : StD
def logStep (M : MapD) (ns : List Int) (q : Lg) : Lg := match noteF M ns q.n (some q.t) with
  | (none, n) => ⟨n, q.l, q.t⟩
  | (some x, n) => match stepS M q.t x with
    | none => ⟨n, q.l, q.t⟩
    | some t => ⟨n, q.l ++ [x], t⟩
def logRun (M : MapD) (ns : List Int) (n : Nat) (s : StD) : Nat → Lg
  | 0 => ⟨n, [], s⟩
  | i + 1 => logStep M ns (logRun M ns n s i)
structure LgOk (M : MapD) (s : StD) (i : Nat) (q : Lg) : Prop where
  trip : Trip M (some s) q.l
  now : lastS M (some s) q.l = some q.t
  few : q.l.length ≤ i
theorem LgOk.log {M : MapD} {s : StD} {i : Nat} {q : Lg} (h : LgOk M s i q) (hM : M.Ok) (hS : s.Ok M) (hi : i ≤ 4) : LogOk M s q.l := ⟨hM, hS, h.trip, by have := h.few; omega, q.t, h.now⟩
theorem LgOk.ses {M : MapD} {s : StD} {i : Nat} {q : Lg} (h : LgOk M s i q) (hM : M.Ok) (hS : s.Ok M) (hi : i ≤ 4) : SesOk M s q.l := ⟨hM, hS, h.trip, by have := h.few; omega⟩
theorem logRun_ok {M : MapD} {ns : List Int} {n : Nat} {s : StD} (hM : M.Ok) (hS : s.Ok M) : ∀ i, i ≤ 4 → LgOk M s i (logRun M ns n s i)
  | 0, _ => ⟨trivial, rfl, Nat.le_refl _⟩
  | i + 1, hi => by
    have h := logRun_ok (ns := ns) (n := n) hM hS i (by omega)
    show LgOk M s (i + 1) (logStep M ns (logRun M ns n s i))
    generalize logRun M ns n s i = q at h
    have few := h.few
    have okt := (h.ses hM hS (by omega)).now h.now
    unfold logStep
    cases e : noteF M ns q.n (some q.t) with
    | mk o n' =>
      cases o with
      | none => exact ⟨h.trip, h.now, by show q.l.length ≤ i + 1; omega⟩
      | some x =>
        obtain ⟨s', es, c⟩ := noteF_ok (o := some q.t) (x := x) (by rw [e]) (fun s' es => by cases es; exact okt)
        cases es
        dsimp only
        cases st : stepS M q.t x with
        | none => exact ⟨h.trip, h.now, by show q.l.length ≤ i + 1; omega⟩
        | some t => exact ⟨trip_snoc.mpr ⟨h.trip, q.t, h.now, c⟩, (last_snoc h.now).trans st, by show (q.l ++ [x]).length ≤ i + 1; rw [List.length_append]; show q.l.length + 1 ≤ i + 1; omega⟩
section
variable {P : Program} {w : World} {K : PySem.W.Frag} {mg : Str → Option Value} {base : Heap} {k : Nat}
def R_logR (C : Addr) (m : Mc) (ds : List D) (d : D) (m' : Mc) : Prop := ∃ (M : MapD) (ns : List Int) (n : Nat) (s : StD), M.Ok ∧ s.Ok M ∧ m = drN ns n ∧ ds = [netD M, mapD C M, stD s] ∧ d = .bl true ∧ m' = drN ns (logRun M ns n s 4).n
theorem ok__law_log_right (T : Txt K mg) : FnOk P w K mg base CX0 11 T.a__law_log_right T.fd__law_log_right ["_law_draws", "_law_net_here", "_law_chart", "_law_state_here"] (spO K 4 (R_logR T.C_Map)) := by
  refine fnO T.F__law_log_right sc__law_log_right rfl (fun cdv A outer s H E hr => ?_)
  refine ⟨_, (pss_cons (ps_par (i := 4) (j := 5) (by rfl) sc__law_log_right.nd rfl rfl (by decide) rfl rfl (pa_cons (pe_lst pa_nil) (pa_cons (pv 3) pa_nil)) (by rfl))
  (pss_cons (ps_for PassesOwn.never rfl (pi_range1 (by rfl) T.n_range (pa_cons pe_int pa_nil)) (pg_name (i := 6) sc__law_log_right.nd rfl (.inl rfl)) (pss_cons (ps_set (i := 7) sc__law_log_right.nd rfl (.inl rfl) (pe_call (ok__law_note T) (hr.mono (by decide)) (by rfl) T.g__law_note T.F__law_note.kp T.b__law_note .nil pass0 (pa_cons (pv 0) (pa_cons (pv 1) (pa_cons (pv 5) (pa_cons pe_int pa_nil))))))
  (pss_cons (ps_set (i := 8) sc__law_log_right.nd rfl (.inl rfl) (pe_ifExp (pt_cmp (pc_isN (pv 7))) pe_non (pe_call (ok__law_end T) (hr.mono (by decide)) (by rfl) T.g__law_end T.F__law_end.kp T.b__law_end .nil pass0 (pa_cons (pv 1) (pa_cons (pv 5) (pa_cons (pe_ix (ixT K) (pv 7) pe_int (fun _ _ => rfl)) (pa_cons (pe_ix (ixT K) (pv 7) pe_int (fun _ _ => rfl)) pa_nil)))))))
  (pss_one (ps_if (pt_cmp (pc_notN (pv 8))) (pss_cons (ps_expr (pe_bm PySem.F.plainAttrs_list PySem.F.slot_list_append PySem.F.type_list_append mt_append (pv 4) (pa_cons (pv 7) pa_nil)))
  (pss_one (ps_set (i := 5) sc__law_log_right.nd rfl (.inl rfl) (pv 8)))) pss_nil)))))
  (pss_cons (ps_set (i := 9) sc__law_log_right.nd rfl (.inr rfl) (pe_call (ok__law_walked T) (hr.mono (by decide)) (by rfl) T.g__law_walked T.F__law_walked.kp T.b__law_walked .nil pass0 (pa_cons (pv 1) (pa_cons (pv 3) (pa_cons (pv 4) pa_nil)))))
  (pss_cons (ps_if (pt_cmpR (opNeD K hr.units) (pe_call (ok_after_log T) (hr.mono (by decide)) (by rfl) T.g_after_log T.F_after_log.kp T.b_after_log .nil pass0 (pa_cons (pv 2) (pa_cons (pv 3) (pa_cons (pv 4) pa_nil)))) (pv 5) (nomark _)) (pss_one (ps_ret pe_bl)) pss_nil)
  (pss_cons (ps_if (pt_cmpR (opNeD K hr.units) (pe_call (ok_spent T) (hr.mono (by decide)) (by rfl) T.g_spent T.F_spent.kp T.b_spent .nil pass0 (pa_cons (pv 2) (pa_cons (pv 3) (pa_cons (pe_tupleOf (by rfl) T.n_tuple (pv 4)) pa_nil)))) (pe_call (ok__law_price T) (hr.mono (by decide)) (by rfl) T.g__law_price T.F__law_price.kp T.b__law_price .nil pass0 (pa_cons (pv 1) (pa_cons (pv 3) (pa_cons (pv 4) pa_nil)))) (nomark _)) (pss_one (ps_ret pe_bl)) pss_nil)
  (pss_one (ps_ret (pe_cmpR (opEqD K hr.units) (pe_call (ok_melted T) (hr.mono (by decide)) (by rfl) T.g_melted T.F_melted.kp T.b_melted .nil pass0 (pa_cons (pv 2) (pa_cons (pv 3) (pa_cons (pv 4) pa_nil)))) (pe_lc (own := [("_law_at", 10), ("_law_move", 11), ("_law_more", 12)]) rfl sc__law_log_right.nd (piEnumL K (by rfl) T.n_enumerate (pa_cons (pv 4) pa_nil)) (blkOk_by (own := [("_law_at", 10), ("_law_move", 11), ("_law_more", 12)]) (N := ["_law_draws", "_law_net_here", "_law_chart", "_law_state_here", "_law_log", "_law_now", "_law_turn", "_law_note_here", "_law_later", "_law_spots", "_law_at", "_law_move", "_law_more"]) (sc := defScope s__law_log_right) (by decide +kernel)) (fun _ _ _ _ _ => (pgTup K 2 (pgs_cons (pg_name (i := 10) sc__law_log_right.nd rfl (.inl rfl)) (pgs_cons (pgTup K 2 (pgs_cons (pg_name (i := 11) sc__law_log_right.nd rfl (.inl rfl)) (pgs_cons (pg_name (i := 12) sc__law_log_right.nd rfl (.inl rfl)) pgs_nil))) pgs_nil)))) (fun _ _ _ _ _ => pts_nil) (fun _ _ _ _ _ => (pe_op op_sub (pe_op op_add (pe_ix (ixT K) (pe_ix (ixL K) (pv 9) (pv 10) (fun _ _ => rfl)) pe_int (fun _ _ => rfl)) (pe_ix (ixT K) (pv 11) pe_int (fun _ _ => rfl))) (pe_ix (ixT K) (pe_ix (ixL K) (pv 9) (pe_op op_add (pv 10) pe_int) (fun _ _ => rfl)) pe_int (fun _ _ => rfl))))) (nomark _))))))))), ?_⟩
  rintro m ds d m' ⟨M, ns, n, s, hM, hS, rfl, rfl, rfl, rfl⟩ -
  let q : Nat → Lg := logRun M ns n s
  have hq : ∀ i, i ≤ 4 → LgOk M s i (q i) := logRun_ok hM hS
  let g : D → Option Vl → Sl := fun now lg => [some (.own 0), some (.dat (netD M)), some (.dat (mapD T.C_Map M)), some (.dat (stD s)), lg, some (.dat now), none, none, none, none, none, none, none]
  let f : Nat → Sl := fun i => g (stD (q i).t) (some (.own 1))
  let mm : Nat → List Mc := fun i => [drN ns (q i).n, .lst ((q i).l.map prD)]
  refine ⟨[.gone], .inl (ds_seq (ss1 := f 0) (m1 := mm 0) (ds_parV (dav_cons (dt_lstO da_nil) (dav_cons (dt_var (i := 3) rfl) dav_nil))) ?_)⟩
  refine ds_seq (ss1 := f 4) (m1 := mm 4) (ds_forW [6, 7, 8, 9, 10, 11, 12] f mm rfl (di_rng1 (j := 4) (da_cons dt_int da_nil) (by decide) (by decide)) (fun _ => rfl) (fun _ => rfl) fun i hi => ?_) ?_
  · have hi : i < 4 := hi
    have h := hq i (by omega)
    have few := h.few
    have okt := (h.ses hM hS (by omega)).now h.now
    have next : q (i + 1) = logStep M ns (q i) := rfl
    show ∃ s' more, DS K _ ((g (stD (q i).t) (some (.own 1))).set 6 (some (.dat (.int (0 + (i : Nat)))))) [drN ns (q i).n, .lst ((q i).l.map prD)] (.nx s' ([drN ns (q (i + 1)).n, .lst ((q (i + 1)).l.map prD)] ++ more)) ∧ wipeS s' _ = g (stD (q (i + 1)).t) (some (.own 1))
    rw [next]
    generalize q i = z at h okt few
    let h6 : Sl := (g (stD z.t) (some (.own 1))).set 6 (some (.dat (.int (0 + (i : Nat)))))
    let fn := noteF M ns z.n (some z.t)
    have note := dt_callO (K := K) (E := E0) (n := 4) (R := R_note) (ss := h6) (mem := [drN ns z.n, .lst (z.l.map prD)]) (m1 := [drN ns z.n, .lst (z.l.map prD)]) (p := 0) (m := drN ns z.n) (d := prO fn.1) (m' := drN ns fn.2) (t := tCons (tVar 0) (tCons (tVar 1) (tCons (tVar 5) (tCons (tC (.int 3)) tNil)))) (ds := [netD M, stD z.t, .int 3]) (dao_cons (dt_var (i := 0) rfl) (da_cons (dt_var (i := 1) rfl) (da_cons (dt_var (i := 5) rfl) (da_cons dt_int da_nil)))) rfl (fun z => by cases z) ⟨M, ns, z.n, some z.t, hM, fun s' es => by cases es; exact okt, rfl, rfl, rfl, rfl⟩
    unfold logStep
    cases e : noteF M ns z.n (some z.t) with
    | mk o n' =>
      have ef : fn = (o, n') := e
      rw [ef] at note
      cases o with
      | none =>
        let h7 : Sl := h6.set 7 (some (.dat .non))
        let h8 : Sl := h7.set 8 (some (.dat .non))
        refine ⟨h8, [], ds_seq (ss1 := h7) (m1 := [drN ns n', .lst (z.l.map prD)]) (ds_set (i := 7) note) (ds_seq (ss1 := h8) (m1 := [drN ns n', .lst (z.l.map prD)]) (ds_set (i := 8) (dt_if_t (m1 := [drN ns n', .lst (z.l.map prD)]) (db_b (dt_isN (d := .non) (dt_var (i := 7) rfl))) dt_non)) (ds_if_f (db_b (dt_notN (d := .non) (dt_var (i := 8) rfl))) ds_next)), rfl⟩
      | some x =>
        obtain ⟨s', es, c⟩ := noteF_ok (o := some z.t) (x := x) (by rw [e]) (fun s' es => by cases es; exact okt)
        cases es
        obtain ⟨c1, c2, c3, -, -⟩ := c.road hM okt
        let me : List Mc := [drN ns n', .lst (z.l.map prD)]
        let h7 : Sl := h6.set 7 (some (.dat (prD x)))
        have call := dt_call (K := K) (ss := h7) (mem := me) (m1 := me) (R := R_endN) (n := 4) (E := E0) (da_cons (dt_var (i := 1) rfl) (da_cons (dt_var (i := 5) rfl) (da_cons (dt_ixT (i := 0) (ds := [mvD x.p x.r, .int (x.m : Nat)]) (dt_var (i := 7) rfl) dt_int rfl) (da_cons (dt_ixT (i := 1) (ds := [mvD x.p x.r, .int (x.m : Nat)]) (dt_var (i := 7) rfl) dt_int rfl) da_nil)))) ⟨M, z.t, x.p, x.r, x.m, rfl, hM, c1, c2, c3, rfl⟩
        have call : DT K _ h7 me (.dat (stO (stepS M z.t x))) me := call
        let h8 : Sl := h7.set 8 (some (.dat (stO (stepS M z.t x))))
        have first : DS K _ h6 [drN ns z.n, .lst (z.l.map prD)] (.nx h7 me) := ds_set (i := 7) note
        have second := ds_set (K := K) (i := 8) (dt_if_f (ta := tC .non) (m1 := me) (db_b (dt_isN (d := prD x) (dt_var (i := 7) rfl))) call)
        have test : DT K (tNotN (tVar 8)) h8 me (.dat (.bl (!(stO (stepS M z.t x)).isN))) me := dt_notN (dt_var (i := 8) rfl)
        have few2 : (z.l.map prD).length < 16777216 := by rw [List.length_map]; omega
        dsimp only
        cases st : stepS M z.t x with
        | none =>
          rw [st] at test
          exact ⟨h8, [], ds_seq (ss1 := h7) (m1 := me) first (ds_seq (ss1 := h8) (m1 := me) second (ds_if_f (db_b test) ds_next)), rfl⟩
        | some t =>
          rw [st] at test
          have e8 : h8 = h7.set 8 (some (.dat (stD t))) := by
            show h7.set 8 (some (.dat (stO (stepS M z.t x)))) = _
            rw [st]
            rfl
          have app := dt_append (K := K) (ss := h8) (mem := me) (n := 1) (ds := z.l.map prD) (d := prD x) (m1 := me) (m2 := me) (dt_var (i := 4) rfl) (da_cons (dt_var (i := 7) rfl) da_nil) rfl rfl few2
          have em : me.set 1 (.lst (z.l.map prD ++ [prD x])) = [drN ns n', .lst ((z.l ++ [x]).map prD)] := by
            rw [List.map_append]
            rfl
          rw [em] at app
          refine ⟨h8.set 5 (some (.dat (stD t))), [], ds_seq (ss1 := h7) (m1 := me) first (ds_seq (ss1 := h8) (m1 := me) second (ds_if_t (db_b test) (ds_seq (ss1 := h8) (m1 := [drN ns n', .lst ((z.l ++ [x]).map prD)]) (ds_drop (r := .dat .non) app) ?_))), rfl⟩
          refine ds_set (i := 5) (dt_var (i := 8) ?_)
          rw [e8]
          rfl
  · have h := hq 4 (Nat.le_refl _)
    show DS K _ (g (stD (q 4).t) (some (.own 1))) [drN ns (q 4).n, .lst ((q 4).l.map prD)] (.rt (.dat (.bl true)) [drN ns (q 4).n, .gone])
    generalize q 4 = z at h
    have lg := h.log hM hS (Nat.le_refl _)
    have se := h.ses hM hS (Nat.le_refl _)
    have few := h.few
    have ln : (z.l.map prD).length = z.l.length := List.length_map ..
    refine ds_frz (n := 1) (ds := z.l.map prD) 4 rfl rfl ?_
    let me : List Mc := [drN ns z.n, .gone]
    let g1 : Sl := g (stD z.t) (some (.dat (.lst (z.l.map prD))))
    let g2 : Sl := g1.set 9 (some (.dat (.rls ((statesS M s z.l).map stO))))
    refine ds_seq (ss1 := g2) (m1 := me) (ds_set (i := 9) (dt_call (da_cons (dt_var (i := 1) rfl) (da_cons (dt_var (i := 3) rfl) (da_cons (dt_var (i := 4) rfl) da_nil))) ⟨M, s, z.l, se, rfl, rfl⟩)) ?_
    have after := dt_call (K := K) (ss := g2) (mem := me) (m1 := me) (R := R_after_log T.C_Map) (n := 3) (E := E0) (da_cons (dt_var (i := 2) rfl) (da_cons (dt_var (i := 3) rfl) (da_cons (dt_var (i := 4) rfl) da_nil))) ⟨M, s, z.l, rfl, lg, rfl⟩
    rw [h.now] at after
    refine ds_guard' (m1 := me) (db_test (dt_neD_same (n := 3) after (dt_var (i := 5) rfl) (flat_stO (some z.t)))) ?_
    refine ds_guard' (m1 := me) (db_test (dt_neD_same (n := 1) (dt_call (R := R_spent T.C_Map) (n := 3) (E := E0) (da_cons (dt_var (i := 2) rfl) (da_cons (dt_var (i := 3) rfl) (da_cons (dt_tupleL (dt_var (i := 4) rfl)) da_nil))) ⟨M, s, z.l, rfl, lg, rfl⟩) (dt_call (da_cons (dt_var (i := 1) rfl) (da_cons (dt_var (i := 3) rfl) (da_cons (dt_var (i := 4) rfl) da_nil))) ⟨M, s, z.l, se, rfl, rfl⟩) (flat_lints 0 _))) (ds_ret ?_)
    refine dt_eqD_one (n := 1) (dt_call (R := R_melted T.C_Map) (n := 3) (E := E0) (da_cons (dt_var (i := 2) rfl) (da_cons (dt_var (i := 3) rfl) (da_cons (dt_var (i := 4) rfl) da_nil))) ⟨M, s, z.l, rfl, lg, rfl⟩) ?_ (flat_lints 0 _)
    have walk := di_enumL (K := K) (ss := g2) (mem := me) (m1 := me) (dt_var (i := 4) rfl)
    rw [ln] at walk
    unfold meltS
    rw [List.map_map]
    refine dt_lcMap walk _ (by omega) fun i hi => ?_
    rw [nth_in prD ⟨0, 0, 0⟩ hi]
    refine ⟨_, _, dg_tup (dgs_cons dg_name (dgs_cons (dg_tup (dgs_cons dg_name (dgs_cons dg_name dgs_nil)) rfl) dgs_nil)) rfl, by decide, ?_⟩
    have at_ : ∀ j, j ≤ z.l.length → L2.atI ((statesS M s z.l).map stO) (j : Nat) = some (stD (atS M s z.l j)) := fun j hj => at_nat (by
      rw [List.getElem?_map, states_at lg hj]
      rfl)
    have e4 : (.int ((atS M s z.l i).i + (z.l.getD i ⟨0, 0, 0⟩).p - (atS M s z.l (i + 1)).i) : D) = .int ((atS M s z.l i).i + (z.l[i].p : Nat) - (atS M s z.l (i + 1)).i) := by rw [getD_at hi]
    show DT K _ _ _ (.dat (.int ((atS M s z.l i).i + (z.l.getD i ⟨0, 0, 0⟩).p - (atS M s z.l (i + 1)).i))) _
    rw [e4]
    have a1 := at_ i (by omega)
    have a2 := at_ (i + 1) (by omega)
    rw [show ((i + 1 : Nat) : Int) = (i : Nat) + 1 by omega] at a2
    exact dt_i0 (dt_i0 (dt_ixT (dt_ixL (dt_rls (dt_var (i := 9) rfl)) (dt_var (i := 10) rfl) a1) dt_int rfl) (dt_ixT (ds := [.int (z.l[i].p : Nat), .int (z.l[i].r : Nat)]) (dt_var (i := 11) rfl) dt_int rfl)) (dt_ixT (dt_ixL (dt_rls (dt_var (i := 9) rfl)) (dt_i0 (dt_var (i := 10) rfl) dt_int) a2) dt_int rfl)
end
end K33
end
section
set_option Elab.async false
set_option linter.all false
set_option maxRecDepth 100000
set_option maxHeartbeats 4000000
namespace K33
open PySem PySem.Spec PyProof.Rows L2 DL
/-! ### the law -/
def bases : List Int := [1009, 1013, 1000033]
def pool (ns : List Int) : List Int := poolN ns bases bases.length
/-- the draws so far, the pairs so far -/
structure Sq where
  n : Nat
  l : List Pr
def turnS (M : MapD) (ns : List Int) (s0 : StD) (q : Sq) : Sq :=
  let f := noteF M ns (q.n + 1) (lastS M (some s0) q.l)
  if (!decide (q.l = []) && (decide (tk ns q.n 5 = 0) || f.1.isNone)) = true then ⟨f.2, q.l.dropLast⟩
  else match f.1 with
    | none => ⟨f.2, q.l⟩
    | some x => if tk ns q.n 5 = 1 then ⟨f.2, q.l⟩ else ⟨f.2, q.l ++ [x]⟩
def turnsS (M : MapD) (ns : List Int) (n : Nat) (s0 : StD) : Nat → Sq
  | 0 => ⟨n, []⟩
  | i + 1 => turnS M ns s0 (turnsS M ns n s0 i)
theorem turns_ok {M : MapD} {ns : List Int} {n : Nat} {s0 : StD} (hM : M.Ok) (hS : s0.Ok M) : ∀ i, i ≤ 9 → SesOk M s0 (turnsS M ns n s0 i).l ∧ (turnsS M ns n s0 i).l.length ≤ i
  | 0, _ => ⟨⟨hM, hS, trivial, by show 0 ≤ 40; decide⟩, Nat.le_refl _⟩
  | i + 1, hi => by
    obtain ⟨h, hl⟩ := turns_ok (ns := ns) (n := n) hM hS i (by omega)
    show SesOk M s0 (turnS M ns s0 (turnsS M ns n s0 i)).l ∧ (turnS M ns s0 (turnsS M ns n s0 i)).l.length ≤ i + 1
    generalize turnsS M ns n s0 i = q at h hl
    unfold turnS
    dsimp only
    split
    · rcases List.eq_nil_or_concat q.l with e | ⟨l', y, e⟩
      · rw [show ({ n := (noteF M ns (q.n + 1) (lastS M (some s0) q.l)).2, l := q.l.dropLast } : Sq).l = q.l by show q.l.dropLast = q.l; rw [e]; rfl]
        exact ⟨h, by omega⟩
      · rw [List.concat_eq_append] at e
        have z : ({ n := (noteF M ns (q.n + 1) (lastS M (some s0) q.l)).2, l := q.l.dropLast } : Sq).l = l' := by
          show q.l.dropLast = l'
          rw [e, List.dropLast_concat]
        rw [z]
        have hh : SesOk M s0 (l' ++ [y]) := e ▸ h
        refine ⟨hh.pre.1, ?_⟩
        rw [e, List.length_append] at hl
        omega
    · split
      · exact ⟨h, by show q.l.length ≤ i + 1; omega⟩
      · rename_i x ex
        split
        · exact ⟨h, by show q.l.length ≤ i + 1; omega⟩
        · obtain ⟨s, es, c⟩ := noteF_ok ex fun s es => h.now es
          exact ⟨⟨hM, hS, trip_snoc.mpr ⟨h.trip, s, es, c⟩, by show (q.l ++ [x]).length ≤ 40; rw [List.length_append]; show q.l.length + 1 ≤ 40; omega⟩, by show (q.l ++ [x]).length ≤ i + 1; rw [List.length_append]; show q.l.length + 1 ≤ i + 1; omega⟩
/-- where the draws stand behind one turn of the law -/
def endN (ns : List Int) (c : Nat) : Nat :=
  let M := netOf ns c
  let n := netEnd ns c
  let a := (turnsS M ns (n + 1) (firstS (tk ns n 5)) 9).n
  (logRun M ns (a + 1 + 1 + 1 + 1) (stN ns a M) 4).n
def drawnS (ns : List Int) : Nat → Nat
  | 0 => 0
  | i + 1 => endN (pool ns) (drawnS ns i)
section
variable {P : Program} {w : World} {K : PySem.W.Frag} {mg : Str → Option Value} {base : Heap} {k : Nat}
def R_law (ds : List D) (d : D) : Prop := ∃ ns : List Int, ns.length ≤ 63 ∧ Bits ns ∧ ds = [.lst (ns.map .int)] ∧ d = .bl true
theorem drawn_z (ns : List Int) : drawnS ns 0 = 0 := rfl
theorem drawn_s (ns : List Int) (i : Nat) : drawnS ns (i + 1) = endN (pool ns) (drawnS ns i) := rfl
theorem endN_is (ns : List Int) (c : Nat) : endN ns c = (logRun (netOf ns c) ns ((turnsS (netOf ns c) ns (netEnd ns c + 1) (firstS (tk ns (netEnd ns c) 5)) 9).n + 1 + 1 + 1 + 1) (stN ns (turnsS (netOf ns c) ns (netEnd ns c + 1) (firstS (tk ns (netEnd ns c) 5)) 9).n (netOf ns c)) 4).n := rfl
theorem turns_z {M : MapD} {ns : List Int} {n : Nat} {s : StD} : turnsS M ns n s 0 = ⟨n, []⟩ := rfl
theorem turns_s {M : MapD} {ns : List Int} {n : Nat} {s : StD} (j : Nat) : turnsS M ns n s (j + 1) = turnS M ns s (turnsS M ns n s j) := rfl
theorem isN_prO (o : Option Pr) : (prO o).isN = o.isNone := by cases o <;> rfl
theorem ok_law (T : Txt K mg) : FnOk P w K mg base CX0 14 T.a_law T.fd_law ["_law_script"] (spP K 1 R_law) := by
  refine fnP T.F_law sc_law rfl (fun cdv A outer s H E hr => ?_)
  refine ⟨_, (pss_cons (ps_set (i := 0) sc_law.nd rfl (.inl rfl) (pe_slice (slL K) (pv 0) po_none (po_some pe_int)))
  (pss_cons (ps_set (i := 1) sc_law.nd rfl (.inl rfl) (pe_call (ok__law_pool T) (hr.mono (by decide)) (by rfl) T.g__law_pool T.F__law_pool.kp T.b__law_pool .nil pass0 (pa_cons (pv 0) (pa_cons (pe_tup (pa_cons pe_int (pa_cons pe_int (pa_cons pe_int pa_nil)))) pa_nil))))
  (pss_cons (ps_for PassesOwn.never rfl (pi_range1 (by rfl) T.n_range (pa_cons pe_int pa_nil)) (pg_name (i := 2) sc_law.nd rfl (.inl rfl)) (pss_cons (ps_par3 (i := 3) (j := 4) (l := 5) rfl sc_law.nd rfl rfl rfl (by decide) (by decide) (by decide) rfl rfl rfl (pa_cons (pe_call (ok__law_net T) (hr.mono (by decide)) (by rfl) T.g__law_net T.F__law_net.kp T.b__law_net .nil pass0 (pa_cons (pv 1) (pa_cons pe_int pa_nil))) (pa_cons (pe_call (ok__law_take T) (hr.mono (by decide)) (by rfl) T.g__law_take T.F__law_take.kp T.b__law_take .nil pass0 (pa_cons (pv 1) (pa_cons pe_int pa_nil))) (pa_cons (pe_lst pa_nil) pa_nil))) (by rfl))
  (pss_cons (ps_par (i := 6) (j := 7) (by rfl) sc_law.nd rfl rfl (by decide) rfl rfl (pa_cons (pe_make T.mk_Map (ok_Map___init__ T) (hr.mono (by decide)) (by rfl) T.g_Map T.b_Map___init__ .nil pass0 (pa_cons (pe_ix (ixT K) (pv 3) pe_int (fun _ _ => rfl)) (pa_cons (pe_ix (ixT K) (pv 3) pe_int (fun _ _ => rfl)) (pa_cons (pe_ix (ixT K) (pv 3) pe_int (fun _ _ => rfl)) (pa_cons (pe_ix (ixT K) (pv 3) pe_int (fun _ _ => rfl)) pa_nil))))) (pa_cons (pe_tup (pa_cons pe_int (pa_cons pe_int (pa_cons pe_int (pa_cons (pv 4) pa_nil))))) pa_nil)) (by rfl))
  (pss_cons (ps_set (i := 8) sc_law.nd rfl (.inl rfl) (pe_make T.mk_Session (ok_Session___init__ T) (hr.mono (by decide)) (by rfl) T.g_Session T.b_Session___init__ .nil pass0 (pa_cons (pv 6) (pa_cons (pv 4) pa_nil))))
  (pss_cons (ps_if (pt_not (pt_val (pe_call (ok__law_is_empty T) (hr.mono (by decide)) (by rfl) T.g__law_is_empty T.F__law_is_empty.kp T.b__law_is_empty .nil pass0 (pa_cons (pv 8) pa_nil)))) (pss_one (ps_ret pe_bl)) pss_nil)
  (pss_cons (ps_for PassesOwn.never rfl (pi_range1 (by rfl) T.n_range (pa_cons pe_int pa_nil)) (pg_name (i := 9) sc_law.nd rfl (.inl rfl)) (pss_cons (ps_set (i := 10) sc_law.nd rfl (.inl rfl) (pe_ix (ixL K) (pe_call (ok__law_walked T) (hr.mono (by decide)) (by rfl) T.g__law_walked T.F__law_walked.kp T.b__law_walked .nil pass0 (pa_cons (pv 3) (pa_cons (pv 7) (pa_cons (pv 5) pa_nil)))) (pe_un un_neg pe_int) (fun _ _ => rfl)))
  (pss_cons (ps_par (i := 11) (j := 12) (by rfl) sc_law.nd rfl rfl (by decide) rfl rfl (pa_cons (pe_call (ok__law_take T) (hr.mono (by decide)) (by rfl) T.g__law_take T.F__law_take.kp T.b__law_take .nil pass0 (pa_cons (pv 1) (pa_cons pe_int pa_nil))) (pa_cons (pe_call (ok__law_note T) (hr.mono (by decide)) (by rfl) T.g__law_note T.F__law_note.kp T.b__law_note .nil pass0 (pa_cons (pv 1) (pa_cons (pv 3) (pa_cons (pv 10) (pa_cons pe_int pa_nil))))) pa_nil)) (by rfl))
  (pss_cons (ps_if (PW.pt (pw_and (pt_cmpR (opNeD K hr.units) (pv 5) (pe_lst pa_nil) (nomark _)) (pw_and1 (PW.pt (pw_or (pt_cmpR op_eq (pv 11) pe_int (nomark _)) (pw_or1 (pt_cmp (pc_isN (pv 12))))))))) (pss_cons (ps_if (pt_cmpR (opNeD K hr.units) (pe_meth0 (pv 8) T.T_Session.cl T.M_Session_undo (ok_Session_undo T) (hr.mono (by decide)) T.b_Session_undo .nil pass0) (pe_ix (ixL K) (pv 5) (pe_un un_neg pe_int) (fun _ _ => rfl)) (nomark _)) (pss_one (ps_ret pe_bl)) pss_nil)
  (pss_one (ps_set (i := 5) sc_law.nd rfl (.inl rfl) (pe_slice (slL K) (pv 5) po_none (po_some (pe_un un_neg pe_int)))))) (pss_one (ps_if (PW.pt (pw_and (pt_cmp (pc_notN (pv 12))) (pw_and1 (pt_cmpR op_eq (pv 11) pe_int (nomark _))))) (pss_one (ps_if (pt_not (pt_val (pe_call (ok__law_branch_right T) (hr.mono (by decide)) (by rfl) T.g__law_branch_right T.F__law_branch_right.kp T.b__law_branch_right .nil pass0 (pa_cons (pv 8) (pa_cons (pv 3) (pa_cons (pv 7) (pa_cons (pv 5) (pa_cons (pv 12) pa_nil)))))))) (pss_one (ps_ret pe_bl)) pss_nil)) (pss_one (ps_if (pt_cmp (pc_notN (pv 12))) (pss_cons (ps_set (i := 5) sc_law.nd rfl (.inl rfl) (pe_op op_cat (pv 5) (pe_lst (pa_cons (pv 12) pa_nil))))
  (pss_one (ps_if (pt_cmpR (opNeD K hr.units) (pe_meth (pv 8) T.T_Session.cl T.M_Session_drive (ok_Session_drive T) (hr.mono (by decide)) T.b_Session_drive .nil pass0 (pa_cons (pe_ix (ixT K) (pv 12) pe_int (fun _ _ => rfl)) (pa_cons (pe_ix (ixT K) (pv 12) pe_int (fun _ _ => rfl)) pa_nil))) (pe_ix (ixL K) (pe_call (ok__law_walked T) (hr.mono (by decide)) (by rfl) T.g__law_walked T.F__law_walked.kp T.b__law_walked .nil pass0 (pa_cons (pv 3) (pa_cons (pv 7) (pa_cons (pv 5) pa_nil)))) (pe_un un_neg pe_int) (fun _ _ => rfl)) (nomark _)) (pss_one (ps_ret pe_bl)) pss_nil))) pss_nil)))))
  (pss_one (ps_if (pt_not (pt_val (pe_call (ok__law_right T) (hr.mono (by decide)) (by rfl) T.g__law_right T.F__law_right.kp T.b__law_right .nil pass0 (pa_cons (pv 8) (pa_cons (pv 3) (pa_cons (pv 7) (pa_cons (pv 5) pa_nil))))))) (pss_one (ps_ret pe_bl)) pss_nil))))))
  (pss_one (ps_if (pt_not (pt_val (pe_call (ok__law_log_right T) (hr.mono (by decide)) (by rfl) T.g__law_log_right T.F__law_log_right.kp T.b__law_log_right .nil pass0 (pa_cons (pv 1) (pa_cons (pv 3) (pa_cons (pv 6) (pa_cons (pe_call (ok__law_state T) (hr.mono (by decide)) (by rfl) T.g__law_state T.F__law_state.kp T.b__law_state .nil pass0 (pa_cons (pv 1) (pa_cons (pv 3) pa_nil))) pa_nil))))))) (pss_one (ps_ret pe_bl)) pss_nil))))))))
  (pss_one (ps_ret pe_bl))))), ?_⟩
  rintro ds d ⟨ns, hl, hB, rfl, rfl⟩ -
  have ecut : DL.cutD (ns.map D.int) none (some 63) = ns.map D.int := by
    unfold DL.cutD
    rw [HT.sIx_none, show (some (63 : Int)) = some ((63 : Nat) : Int) from rfl, HT.sIx_nat, List.length_map, List.drop_zero, Nat.sub_zero]
    exact List.take_of_length_le (by rw [List.length_map]; omega)
  let F : Option Vl → Sl := fun o => [some (.dat (.lst (ns.map .int))), o, none, none, none, none, none, none, none, none, none, none, none]
  have scr := dt_slL (K := K) (ss := F none) (mem := []) (m1 := []) (m2 := []) (m3 := []) (ds := ns.map D.int) (dt_var (i := 0) rfl) do_none (do_some (i := 63) dt_int)
  rw [ecut] at scr
  let pl := pool ns
  obtain ⟨dr, dz, dn⟩ : ∃ dr : Nat → Nat, dr 0 = 0 ∧ ∀ i, dr (i + 1) = endN pl (dr i) := ⟨drawnS ns, drawn_z ns, drawn_s ns⟩
  refine ⟨[drN pl (dr 4)], .inl ?_⟩
  refine ds_seq (ss1 := F none) (m1 := []) (ds_set (i := 0) scr) ?_
  refine ds_seq (ss1 := F (some (.own 0))) (m1 := [drN pl (dr 0)]) (by
    rw [dz]
    exact ds_set (i := 1) (dt_callN (m1 := []) (da_cons (dt_var (i := 0) rfl) (da_cons (dt_tup (ds := bases.map .int) (da_cons dt_int (da_cons dt_int (da_cons dt_int da_nil)))) da_nil)) ⟨ns, bases, rfl, hB, by decide, by decide, rfl⟩)) ?_
  refine ds_seq (ss1 := F (some (.own 0))) (m1 := [drN pl (dr 4)]) (ds_forW [2, 3, 4, 5, 6, 7, 8, 9, 10, 11, 12] (fun _ => F (some (.own 0))) (fun i => [drN pl (dr i)]) rfl (di_rng1 (j := 4) (da_cons dt_int da_nil) (by decide) (by decide)) (fun _ => rfl) (fun _ => rfl) fun i hi => ?_) (ds_ret dt_bl)
  have ed : dr (i + 1) = endN pl (dr i) := dn i
  show ∃ s' more, DS K _ _ [drN pl (dr i)] (.nx s' ([drN pl (dr (i + 1))] ++ more)) ∧ wipeS s' _ = _
  rw [ed]
  generalize dr i = c
  have hM : (netOf pl c).Ok := netOf_ok pl c
  rw [endN_is]
  obtain ⟨q0, q1⟩ := tk_bd (ns := pl) (n := netEnd pl c) (show (0 : Int) < 5 by decide)
  generalize eM : netOf pl c = M at hM
  generalize en : netEnd pl c = n at q0 q1
  generalize el : tk pl n 5 = late at q0 q1
  have l0 : 0 ≤ late := q0
  have l4 : late ≤ 4 := by omega
  have hS : (firstS late).Ok M := first_ok hM l0 l4
  have hq := turns_ok (ns := pl) (n := n + 1) hM hS
  have qz : turnsS M pl (n + 1) (firstS late) 0 = ⟨n + 1, []⟩ := turns_z
  have qs : ∀ j, turnsS M pl (n + 1) (firstS late) (j + 1) = turnS M pl (firstS late) (turnsS M pl (n + 1) (firstS late) j) := turns_s
  generalize turnsS M pl (n + 1) (firstS late) = q at hq qz qs ⊢
  generalize ef : (logRun M pl ((q 9).n + 1 + 1 + 1 + 1) (stN pl (q 9).n M) 4).n = fin
  have net := dt_callO (K := K) (E := E0) (n := 2) (R := R_net) (ss := (F (some (.own 0))).set 2 (some (.dat (.int (0 + (i : Nat)))))) (mem := [drN pl c]) (m1 := [drN pl c]) (p := 0) (m := drN pl c) (d := netD M) (m' := drN pl n) (t := tCons (tVar 1) (tCons (tC (.int 4)) tNil)) (ds := [.int 4]) (dao_cons (dt_var (i := 1) rfl) (da_cons dt_int da_nil)) rfl (fun z => by cases z) ⟨pl, c, rfl, rfl, by rw [eM], by rw [en]⟩
  have tke := dt_take (K := K) (E := E0) (ss := (F (some (.own 0))).set 2 (some (.dat (.int (0 + (i : Nat)))))) (mem := [drN pl n]) (m1 := [drN pl n]) (ns := pl) (n := n) (b := 5) (o := 0) (to := tVar 1) (tb := tC (.int 5)) (dt_var (i := 1) rfl) dt_int rfl (by decide)
  rw [el] at tke
  let me : Sq → List Mc := fun q => [drN pl q.n, sesM T M (firstS late) q.l]
  let g : D → Option Vl → Option Vl → Sl := fun past chart ses => [some (.dat (.lst (ns.map .int))), some (.own 0), some (.dat (.int (0 + (i : Nat)))), some (.dat (netD M)), some (.dat (.int late)), some (.dat past), chart, (chart.map fun _ => .dat (stD (firstS late))), ses, none, none, none, none]
  let ch : Option Vl := some (.dat (mapD T.C_Map M))
  let f : Sq → Sl := fun q => g (.rls (q.l.map prD)) ch (some (.own 1))
  have start : SesOk M (firstS late) [] := ⟨hM, hS, trivial, by show 0 ≤ 40; decide⟩
  let z0 : Sq := ⟨n + 1, []⟩
  refine ⟨f (q 9), [sesM T M (firstS late) (q 9).l], ?_, rfl⟩
  refine ds_seq (ss1 := g (.rls []) none none) (m1 := [drN pl (n + 1)]) (ds_par3V (dav_cons net (dav_cons tke (dav_cons (dt_tlR (dt_lstT da_nil)) dav_nil)))) ?_
  refine ds_seq (ss1 := g (.rls []) ch none) (m1 := [drN pl (n + 1)]) (ds_par (da_cons (dt_make (da_cons (dt_ixT (dt_var (i := 3) rfl) dt_int rfl) (da_cons (dt_ixT (dt_var (i := 3) rfl) dt_int rfl) (da_cons (dt_ixT (dt_var (i := 3) rfl) dt_int rfl) (da_cons (dt_ixT (dt_var (i := 3) rfl) dt_int rfl) da_nil)))) ⟨M, hM, rfl, rfl, rfl, rfl⟩) (da_cons (dt_tup (da_cons dt_int (da_cons dt_int (da_cons dt_int (da_cons (dt_var (i := 4) rfl) da_nil))))) da_nil))) ?_
  refine ds_seq (ss1 := f z0) (m1 := me z0) (ds_set (i := 8) (dt_makeO (K := K) (mem := [drN pl (n + 1)]) (m1 := [drN pl (n + 1)]) (da_cons (dt_var (i := 6) rfl) (da_cons (dt_var (i := 4) rfl) da_nil)) ⟨M, late, l0, l4, rfl, rfl, rfl, rfl⟩)) ?_
  have empty : DT K (tCall (spM K 1 (R_empty T.C_Session T.C_Map T.C_Moment)) [] E0 (tCons (tVar 8) tNil)) (f z0) (me z0) (.dat (.bl true)) (me z0) := dt_callM (K := K) (p := 1) (R := R_empty T.C_Session T.C_Map T.C_Moment) (E := E0) (n := 1) (m := sesM T M (firstS late) []) (m' := sesM T M (firstS late) []) (m1 := me z0) (dav_cons (dt_var (i := 8) rfl) dav_nil) (fun r hr => .inr (List.mem_singleton.mp hr)) rfl ⟨M, (firstS late), start, rfl, rfl, rfl, rfl⟩
  refine ds_guard' (m1 := me z0) (db_nt' empty) ?_
  refine ds_seq (ss1 := f (q 9)) (m1 := me (q 9)) (ds_forW [9, 10, 11, 12] (fun j => f (q j)) (fun j => me (q j)) (by
    show wipeS (f z0) _ = f (q 0)
    rw [qz]
    rfl) (by
    show DI K _ _ _ _ _ (me (q 0))
    rw [qz]
    exact di_rng1 (j := 9) (da_cons dt_int da_nil) (by decide) (by decide)) (fun _ => rfl) (fun _ => rfl) fun j hj => ?_) ?_
  · have hj : j < 9 := hj
    obtain ⟨h, hlen⟩ := hq j (by omega)
    have next : q (j + 1) = turnS M pl (firstS late) (q j) := qs j
    show ∃ s' more, DS K _ ((f (q j)).set 9 (some (.dat (.int (0 + (j : Nat)))))) (me (q j)) (.nx s' (me (q (j + 1)) ++ more)) ∧ wipeS s' _ = f (q (j + 1))
    rw [next]
    generalize q j = z at h hlen
    have few := h.few
    have ln : (z.l.map prD).length = z.l.length := List.length_map ..
    let o : Option StD := lastS M (some (firstS late)) z.l
    let fn := noteF M pl (z.n + 1) o
    let kind := tk pl z.n 5
    obtain ⟨k0, k1⟩ := tk_bd (ns := pl) (n := z.n) (show (0 : Int) < 5 by decide)
    let h9 : Sl := (f z).set 9 (some (.dat (.int (0 + (j : Nat)))))
    let h10 : Sl := h9.set 10 (some (.dat (stO o)))
    let hh : List Pr → Sl := fun l => [some (.dat (.lst (ns.map .int))), some (.own 0), some (.dat (.int (0 + (i : Nat)))), some (.dat (netD M)), some (.dat (.int late)), some (.dat (.rls (l.map prD))), some (.dat (mapD T.C_Map M)), some (.dat (stD (firstS late))), some (.own 1), some (.dat (.int (0 + (j : Nat)))), some (.dat (stO o)), some (.dat (.int kind)), some (.dat (prO fn.1))]
    let mm : List Pr → List Mc := fun l => [drN pl fn.2, sesM T M (firstS late) l]
    have b1 := ds_set (K := K) (ss := h9) (mem := me z) (m1 := me z) (i := 10) (dt_ixL (dt_rls (dt_call (R := R_walked) (n := 3) (E := E0) (da_cons (dt_var (i := 3) rfl) (da_cons (dt_var (i := 7) rfl) (da_cons (dt_rls (dt_var (i := 5) rfl)) da_nil))) ⟨M, (firstS late), z.l, h, rfl, rfl⟩)) (dt_un (g := fun a => -a) (dt_int (i := 1))) h.last)
    have t1 := dt_take (K := K) (E := E0) (ss := h10) (mem := me z) (m1 := me z) (ns := pl) (n := z.n) (b := 5) (o := 0) (to := tVar 1) (tb := tC (.int 5)) (dt_var (i := 1) rfl) dt_int rfl (by decide)
    have t2 := dt_callO (K := K) (E := E0) (n := 4) (R := R_note) (ss := h10) (mem := [drN pl (z.n + 1), sesM T M (firstS late) z.l]) (m1 := [drN pl (z.n + 1), sesM T M (firstS late) z.l]) (p := 0) (m := drN pl (z.n + 1)) (d := prO fn.1) (m' := drN pl fn.2) (t := tCons (tVar 1) (tCons (tVar 3) (tCons (tVar 10) (tCons (tC (.int 3)) tNil)))) (ds := [netD M, stO o, .int 3]) (dao_cons (dt_var (i := 1) rfl) (da_cons (dt_var (i := 3) rfl) (da_cons (dt_var (i := 10) rfl) (da_cons dt_int da_nil)))) rfl (fun z => by cases z) ⟨M, pl, z.n + 1, o, hM, fun t et => h.now et, rfl, rfl, rfl, rfl⟩
    have b2 : DS K _ h10 (me z) (.nx (hh z.l) (mm z.l)) := ds_par (i := 11) (j := 12) (da_cons t1 (da_cons t2 da_nil))
    have b4 : ∀ l, SesOk M (firstS late) l → DS K (tIfS (tNot (tTest (tCall (spM K 4 (R_right T.C_Session T.C_Map T.C_Moment)) [] E0 (tCons (tVar 8) (tCons (tVar 3) (tCons (tVar 7) (tCons (tVar 5) tNil))))))) (tRet (tC (.bl false))) tNext) (hh l) (mm l) (.nx (hh l) (mm l)) := fun l ok =>
      ds_if_f (db_nt' (dt_right T (p := 1) (dt_var (i := 8) rfl) (dt_var (i := 3) rfl) (dt_var (i := 7) rfl) (dt_rls (dt_var (i := 5) rfl)) ok rfl)) ds_next
    have e11 : DB K (tTest (tOp rEq (tVar 11) (tC (.int 0)))) (hh z.l) (mm z.l) (decide (kind = 0)) (mm z.l) := db_test (dt_eqI (dt_var (i := 11) rfl) dt_int)
    have e12 : DB K (tTest (tOp rEq (tVar 11) (tC (.int 1)))) (hh z.l) (mm z.l) (decide (kind = 1)) (mm z.l) := db_test (dt_eqI (dt_var (i := 11) rfl) dt_int)
    have isn : DB K (tB (tIsN (tVar 12))) (hh z.l) (mm z.l) fn.1.isNone (mm z.l) := by
      rw [← isN_prO]
      exact db_b (dt_isN (dt_var (i := 12) rfl))
    have non : DB K (tB (tNotN (tVar 12))) (hh z.l) (mm z.l) (!fn.1.isNone) (mm z.l) := by
      rw [← isN_prO]
      exact db_b (dt_notN (dt_var (i := 12) rfl))
    have past : DB K (tTest (tOp (rNeD K) (tVar 5) (tLst tNil))) (hh z.l) (mm z.l) (!decide (z.l = [])) (mm z.l) := by
      refine db_is (db_test (dt_neD (n := 4) (e := .lst []) (dt_rls (dt_var (i := 5) rfl)) (dt_lst da_nil) (flat_prs z.l) rfl)) ?_
      cases z.l with
      | nil => decide
      | cons a as =>
        rw [show ((a :: as).map prD) = prD a :: as.map prD from rfl, eqv_nil]
        rfl
    have test := db_and past fun _ => db_or e11 fun _ => isn
    have turn : ∀ l', turnS M pl (firstS late) z = ⟨fn.2, l'⟩ → SesOk M (firstS late) l' → (∀ {u : TS}, DS K u (hh z.l) (mm z.l) (.nx (hh l') (mm l')) → True) := fun _ _ _ _ _ => trivial
    by_cases cond : (!decide (z.l = []) && (decide (kind = 0) || fn.1.isNone)) = true
    · -- the last pair is taken back
      rw [cond] at test
      rcases List.eq_nil_or_concat z.l with e | ⟨l', y, e⟩
      · rw [e] at cond
        cases cond
      · rw [List.concat_eq_append] at e
        have hy : SesOk M (firstS late) (l' ++ [y]) := e ▸ h
        have eT : turnS M pl (firstS late) z = ⟨fn.2, l'⟩ := by
          have dl : z.l.dropLast = l' := by rw [e, List.dropLast_concat]
          unfold turnS
          dsimp only
          rw [if_pos cond, dl]
        rw [eT]
        have undo : DT K (tMeth T.C_Session "undo" (spM K 1 (R_undo T.C_Session T.C_Map T.C_Moment)) [] E0 (tVar 8) tNil) (hh z.l) (mm z.l) (.dat (prD y)) (mm l') := dt_methM (K := K) (p := 1) (ds := []) (m1 := mm z.l) (m2 := mm z.l) (m' := sesM T M (firstS late) l') (R := R_undo T.C_Session T.C_Map T.C_Moment) (dt_var (i := 8) rfl) rfl rfl da_nil rfl ⟨M, (firstS late), l', y, hy, rfl, by rw [← e], rfl, rfl⟩
        have cutp := dt_slR (K := K) (ss := hh z.l) (mem := mm l') (m1 := mm l') (m2 := mm l') (m3 := mm l') (lo := none) (hi := some (-1)) (dt_rls (dt_var (i := 5) rfl)) do_none (do_some (dt_un (g := fun a => -a) (dt_int (i := 1))))
        have ec : DL.cutD (z.l.map prD) none (some (-1)) = l'.map prD := by
          rw [e, List.map_append]
          exact cut_init
        rw [ec] at cutp
        refine ⟨hh l', [], ds_seq b1 (ds_seq b2 (ds_seq (ss1 := hh l') (m1 := mm l') (ds_if_t test (ds_guard' (m1 := mm l') (db_test (dt_neD_same (n := 3) undo (dt_ixL (dt_rls (dt_var (i := 5) rfl)) (dt_un dt_int) (at_last ?_)) (flat_pr y))) (ds_set (i := 5) cutp))) (b4 l' hy.pre.1))), rfl⟩
        rw [e, List.map_append, List.getLast?_append]
        rfl
    · have cond := Bool.eq_false_iff.mpr cond
      rw [cond] at test
      have eT : turnS M pl (firstS late) z = match fn.1 with
          | none => ⟨fn.2, z.l⟩
          | some x => if kind = 1 then ⟨fn.2, z.l⟩ else ⟨fn.2, z.l ++ [x]⟩ := by
        unfold turnS
        dsimp only
        rw [if_neg (by rw [cond]; exact Bool.false_ne_true)]
      cases ex : fn.1 with
      | none =>
        rw [ex] at eT non
        rw [show turnS M pl (firstS late) z = ⟨fn.2, z.l⟩ from eT]
        exact ⟨hh z.l, [], ds_seq b1 (ds_seq b2 (ds_seq (ss1 := hh z.l) (m1 := mm z.l) (ds_if_f test (ds_if_f (db_and_f non) (ds_if_f non ds_next))) (b4 z.l h))), rfl⟩
      | some x =>
        rw [ex] at eT non
        obtain ⟨t, et, ct⟩ := noteF_ok ex fun s es => h.now es
        have hx : SesOk M (firstS late) (z.l ++ [x]) := ⟨hM, hS, trip_snoc.mpr ⟨h.trip, t, et, ct⟩, by rw [List.length_append]; show z.l.length + 1 ≤ 40; omega⟩
        have v12 : ∀ l, (hh l)[12]? = some (some (.dat (prD x))) := fun l => by
          show some (some (Vl.dat (prO fn.1))) = _
          rw [ex]
          rfl
        by_cases k1 : kind = 1
        · rw [show turnS M pl (firstS late) z = ⟨fn.2, z.l⟩ from eT.trans (if_pos k1)]
          rw [decide_eq_true k1] at e12
          have br : DT K (tCall (spM K 5 (R_branchR T.C_Session T.C_Map T.C_Moment)) [] E0 (tCons (tVar 8) (tCons (tVar 3) (tCons (tVar 7) (tCons (tVar 5) (tCons (tVar 12) tNil)))))) (hh z.l) (mm z.l) (.dat (.bl true)) (mm z.l) := dt_callM (K := K) (p := 1) (R := R_branchR T.C_Session T.C_Map T.C_Moment) (E := E0) (n := 5) (m := sesM T M (firstS late) z.l) (m' := sesM T M (firstS late) z.l) (m1 := mm z.l) (dav_cons (dt_var (i := 8) rfl) (dav_cons (dt_var (i := 3) rfl) (dav_cons (dt_var (i := 7) rfl) (dav_cons (dt_var (i := 5) rfl) (dav_cons (dt_var (i := 12) (v12 z.l)) dav_nil))))) (fun r hr => by
            simp only [List.mem_cons, List.not_mem_nil, or_false] at hr
            rcases hr with rfl | rfl | rfl | rfl | rfl
            · exact .inr rfl
            · exact .inl ⟨_, rfl⟩
            · exact .inl ⟨_, rfl⟩
            · exact .inl ⟨_, rfl⟩
            · exact .inl ⟨_, rfl⟩) rfl ⟨M, (firstS late), z.l, x, hx, rfl, rfl, rfl, rfl⟩
          exact ⟨hh z.l, [], ds_seq b1 (ds_seq b2 (ds_seq (ss1 := hh z.l) (m1 := mm z.l) (ds_if_f test (ds_if_t (db_and_t non e12) (ds_if_f (db_nt' br) ds_next))) (b4 z.l h))), rfl⟩
        · rw [show turnS M pl (firstS late) z = ⟨fn.2, z.l ++ [x]⟩ from eT.trans (if_neg k1)]
          rw [decide_eq_false k1] at e12
          let l' := z.l ++ [x]
          have el' : z.l.map prD ++ [prD x] = l'.map prD := by
            show _ = (z.l ++ [x]).map prD
            rw [List.map_append]
            rfl
          have more := dt_catRR (K := K) (ss := hh z.l) (mem := mm z.l) (m1 := mm z.l) (m2 := mm z.l) (es := [prD x]) (dt_var (i := 5) rfl) (dt_tlR (dt_lstT (da_cons (dt_var (i := 12) (v12 z.l)) da_nil))) (by rw [ln]; show z.l.length + 1 ≤ _; omega)
          rw [el'] at more
          have grow : DS K _ (hh z.l) (mm z.l) (.nx (hh l') (mm z.l)) := ds_set (i := 5) more
          have drive : DT K (tMeth T.C_Session "drive" (spM K 3 (R_drive T.C_Session T.C_Map T.C_Moment)) [] E0 (tVar 8) (tCons (tOp (rIxT K) (tVar 12) (tC (.int 0))) (tCons (tOp (rIxT K) (tVar 12) (tC (.int 1))) tNil))) (hh l') (mm z.l) (.dat (stO (lastS M (some (firstS late)) l'))) (mm l') := dt_methM (K := K) (p := 1) (ds := [mvD x.p x.r, .int (x.m : Nat)]) (m1 := mm z.l) (m2 := mm z.l) (m' := sesM T M (firstS late) l') (R := R_drive T.C_Session T.C_Map T.C_Moment) (dt_var (i := 8) rfl) rfl rfl (da_cons (dt_ixT (ds := [mvD x.p x.r, .int (x.m : Nat)]) (dt_var (i := 12) (v12 l')) dt_int rfl) (da_cons (dt_ixT (ds := [mvD x.p x.r, .int (x.m : Nat)]) (dt_var (i := 12) (v12 l')) dt_int rfl) da_nil)) rfl ⟨M, (firstS late), z.l, x, hx, rfl, rfl, rfl, rfl⟩
          have walked := dt_ixL (K := K) (ss := hh l') (mem := mm l') (m1 := mm l') (m2 := mm l') (dt_rls (dt_call (R := R_walked) (n := 3) (E := E0) (da_cons (dt_var (i := 3) rfl) (da_cons (dt_var (i := 7) rfl) (da_cons (dt_rls (dt_var (i := 5) rfl)) da_nil))) ⟨M, (firstS late), l', hx, rfl, rfl⟩)) (dt_un (g := fun a => -a) (dt_int (i := 1))) hx.last
          exact ⟨hh l', [], ds_seq b1 (ds_seq b2 (ds_seq (ss1 := hh l') (m1 := mm l') (ds_if_f test (ds_if_f (db_and_t non e12) (ds_if_t non (ds_seq grow (ds_if_f (db_test (dt_neD_same (n := 3) drive walked (flat_stO _))) ds_next))))) (b4 l' hx))), rfl⟩
  · have okst : (stN pl (q 9).n M).Ok M := stN_ok hM
    have state := dt_callO (K := K) (E := E0) (n := 2) (R := R_stateN) (ss := f (q 9)) (mem := me (q 9)) (m1 := me (q 9)) (p := 0) (m := drN pl (q 9).n) (d := stD (stN pl (q 9).n M)) (m' := drN pl ((q 9).n + 1 + 1 + 1 + 1)) (t := tCons (tVar 1) (tCons (tVar 3) tNil)) (ds := [netD M]) (dao_cons (dt_var (i := 1) rfl) (da_cons (dt_var (i := 3) rfl) da_nil)) rfl (fun z => by cases z) ⟨pl, (q 9).n, M, rfl, rfl, hM, rfl, rfl⟩
    have log := dt_callO (K := K) (E := E0) (n := 4) (R := R_logR T.C_Map) (ss := f (q 9)) (mem := me (q 9)) (m1 := [drN pl ((q 9).n + 1 + 1 + 1 + 1), sesM T M (firstS late) (q 9).l]) (p := 0) (m := drN pl ((q 9).n + 1 + 1 + 1 + 1)) (d := .bl true) (m' := drN pl (logRun M pl ((q 9).n + 1 + 1 + 1 + 1) (stN pl (q 9).n M) 4).n) (ds := [netD M, mapD T.C_Map M, stD (stN pl (q 9).n M)]) (dao_cons (dt_var (i := 1) rfl) (da_cons (dt_var (i := 3) rfl) (da_cons (dt_var (i := 6) rfl) (da_cons state da_nil)))) rfl (fun z => by cases z) ⟨M, pl, (q 9).n + 1 + 1 + 1 + 1, stN pl (q 9).n M, hM, okst, rfl, rfl, rfl, rfl⟩
    rw [ef] at log
    exact ds_if_f (db_nt' log) ds_next
end
end K33
end
section
set_option Elab.async false
set_option linter.all false
set_option maxRecDepth 100000
set_option maxHeartbeats 2000000
/-! the head's facts: defs wherever they stand, properties, classes -/
namespace DLz
open PySem PySem.Spec PyProof.Rows L2
/-- a def: where it stands, its names, its statement -/
structure DefX where
  adr : PySem.W.Frag → Addr
  name : Str
  qual : Str
  st : Stmt
/-- as the library's head says it -/
def DefX.toA (d : DefX) : He5.DefA := { at_ := d.adr, name := d.name, qual := d.qual, params := defArgs d.st, body := defBody d.st, scope := defScope d.st }
/-- the getter of the property f of the class x -/
def getAd (x f : Str) (K : PySem.W.Frag) : Addr := match PySem.W.recIn K (He.ma K (He.ga K x) f) "property" with
  | some (.ref g :: _) => g
  | _ => 0
/-- facts that HeadHook1 lacks -/
inductive Fx where
  | fa (f : He.Fa)
  | prop (x f : Str)
  | isi (x : Str)
  | strs (x : Str) (vs : List Str)
  | apart (x y : Str)
/-- the text that a value is -/
def txtOf : Value → Option Str
  | .str x _ => some x
  | _ => none
def Fx.ok (K : PySem.W.Frag) : Fx → Bool
  | .fa f => f.ok K
  | .prop x f => He.eqO (PySem.W.findIn K (.ref (He.ga K x)) f) (some (some (.ref (He.ma K (He.ga K x) f)))) && (He.eqO (PySem.W.specialIn K (.ref (He.ma K (He.ga K x) f)) "__get__") (some (some (.builtin "property.__get__"))) &&
      (decide (PySem.W.takesIn K (.ref (He.ma K (He.ga K x) f)) = some true) && (match PySem.W.recIn K (He.ma K (He.ga K x) f) "property" with
        | some (.ref g :: _) => decide (g = getAd x f K)
        | _ => false)))
  | .isi x => He.eqO (PySem.W.findIn K (.ref (He.ga K x)) "__class__") (some (some (.builtin "object.__class__"))) && (He.eqO (PySem.W.specialIn K (.builtin "object.__class__") "__get__") (some (some (.builtin "getset_descriptor.__get__"))) &&
      (decide (PySem.W.takesIn K (.builtin "object.__class__") = some true) && decide (PySem.W.mroIn K (He.ga K x) (.type "object") = some true)))
  | .apart x y => decide (PySem.W.kitOne K (.ref (He.ga K x)) (.ref (He.ga K y)) = some false)
  | .strs x vs => He.eqO (PySem.W.nsIn K mainGlobals x) (some (some (.ref (He.ga K x)))) && (match K.lookup (He.ga K x) with
      | some ⟨.type "tuple", _, .seq items _, _⟩ => decide (items.toList.map txtOf = vs.map some) && decide (vs.length ≤ 1000)
      | _ => false)
section
variable {K : PySem.W.Frag}
theorem txts : ∀ {its : List Value} {vs : List Str}, its.map txtOf = vs.map some → L2.Vals (vs.map V.str) its
  | [], [], _ => .nil
  | [], _ :: _, h => by cases h
  | _ :: _, [], h => by cases h
  | i :: its, v :: vs, h => by
    rw [List.map_cons, List.map_cons] at h
    obtain ⟨h1, h2⟩ := List.cons.inj h
    refine .cons ?_ (txts h2)
    cases i <;> first | (cases h1; exact ⟨_, rfl⟩) | cases h1
theorem strs_ok {x : Str} {vs : List Str} (c : Fx.ok K (.strs x vs) = true) : ∀ H : L2.Hp, L2.SqT K H (He.ga K x) (vs.map V.str) := fun H => by
  obtain ⟨-, c⟩ := He.ba c
  split at c
  · rename_i d items n sl e
    obtain ⟨c1, c2⟩ := He.ba c
    have h := of_decide_eq_true c1
    have len : items.size = vs.length := by
      have z := congrArg List.length h
      simpa using z
    have le := of_decide_eq_true c2
    exact .inr ⟨_, items, n, e, rfl, rfl, by rw [sizeLine_eq]; omega, txts h⟩
  · cases c
theorem apart_ok {x y : Str} (c : Fx.ok K (.apart x y) = true) : PySem.W.kitOne K (.ref (He.ga K x)) (.ref (He.ga K y)) = some false := of_decide_eq_true c
theorem prop_ok {x f : Str} (c : Fx.ok K (.prop x f) = true) : PropOf K (He.ga K x) f (He.ma K (He.ga K x) f) (getAd x f K) := by
  obtain ⟨c1, c⟩ := He.ba c
  obtain ⟨c2, c⟩ := He.ba c
  obtain ⟨c3, c4⟩ := He.ba c
  refine ⟨He.eqO_ok c1, He.eqO_ok c2, of_decide_eq_true c3, ?_⟩
  split at c4
  · rename_i g rest e
    rw [of_decide_eq_true c4] at e
    exact ⟨_, e⟩
  · cases c4
theorem isi_ok {x : Str} (c0 : (He.Fa.cls x).ok K = true) (c : Fx.ok K (.isi x) = true) : DL.ClsT K (He.ga K x) := by
  obtain ⟨c1, c⟩ := He.ba c
  obtain ⟨c2, c⟩ := He.ba c
  obtain ⟨c3, c4⟩ := He.ba c
  refine ⟨He.cls_ok c0, He.eqO_ok c1, He.eqO_ok c2, of_decide_eq_true c3, of_decide_eq_true c4, ?_⟩
  unfold PySem.W.kitOne
  rw [if_pos (by simp)]
end
/-! the Hook: the library's for the defs, and the facts beside it -/
abbrev Al : Type := He.AlD × Bool
def seen (xs : List Fx) (fn : List DefX) (K : PySem.W.Frag) : Al := (He5.obsA [] (fn.map DefX.toA) K, xs.all (Fx.ok K))
def good (fn : List DefX) : Al := (He5.valA (fn.map DefX.toA), true)
structure Says (xs : List Fx) (fn : List DefX) (K : PySem.W.Frag) : Prop where
  defs : He5.SaysA [] (fn.map DefX.toA) K
  all_ : xs.all (Fx.ok K) = true
def obsG (n : Nat) (xs : List Fx) (fn : List DefX) (g : Addr → Option Obj) : Al := seen xs fn (He.frG g (He.asG g n))
def hook (n : Nat) (xs : List Fx) (fn : List DefX) : PySem.W.Hook where
  α := Al
  obs s := obsG n xs fn s.heap.get?
  val _ := good fn
  says _ h := ∃ K : PySem.W.Frag, K.In h ∧ Says xs fn K
  of _ _ e := ⟨He.frG _ (He.asG _ n), He.frG_in, ⟨congrArg Prod.fst e, congrArg Prod.snd e⟩⟩
  keeps := by
    rintro w h h' ⟨K, inside, said⟩ kept
    exact ⟨K, inside.keeps kept, said⟩
theorem obsG_eq {n : Nat} {xs : List Fx} {fn : List DefX} {g : Addr → Option Obj} {s : Shared} (h : ∀ a, g a = s.heap.get? a) : obsG n xs fn g = (hook n xs fn).obs s :=
  congrArg (obsG n xs fn) (funext h)
/-- the hook that looks at these addresses -/
def obsL (as : List Addr) (xs : List Fx) (fn : List DefX) (g : Addr → Option Obj) : Al := seen xs fn (He.frG g as)
def hookL (as : List Addr) (xs : List Fx) (fn : List DefX) : PySem.W.Hook where
  α := Al
  obs s := obsL as xs fn s.heap.get?
  val _ := good fn
  says _ h := ∃ K : PySem.W.Frag, K.In h ∧ Says xs fn K
  of _ _ e := ⟨He.frG _ as, He.frG_in, ⟨congrArg Prod.fst e, congrArg Prod.snd e⟩⟩
  keeps := by
    rintro w h h' ⟨K, inside, said⟩ kept
    exact ⟨K, inside.keeps kept, said⟩
theorem obsL_eq {as : List Addr} {xs : List Fx} {fn : List DefX} {g : Addr → Option Obj} {s : Shared} (h : ∀ a, g a = s.heap.get? a) : obsL as xs fn g = (hookL as xs fn).obs s :=
  congrArg (obsL as xs fn) (funext h)
section
variable {xs : List Fx} {fn : List DefX} {K : PySem.W.Frag}
theorem Says.fact (c : Says xs fn K) (i : Nat) {f : Fx} (h : xs[i]? = some f := by rfl) : Fx.ok K f = true := List.all_eq_true.mp c.all_ f (List.mem_of_getElem? h)
theorem Says.def_ (c : Says xs fn K) (i : Nat) {d : DefX} (h : fn[i]? = some d := by rfl) : ∃ fd, Fun K d.name d.qual d.st (d.adr K) fd := by
  obtain ⟨fd, F⟩ := c.defs.def_ i (d := d.toA) (by rw [List.getElem?_map, h]; rfl)
  exact ⟨fd, He5.fun_of F⟩
end
/-! the run's equation by its three looks: each run alone holds less at once -/
section
open PySem.W HandSHeadRun
def Run1 (r : PySem.W.OpenRow) (M : Nat) (w : PySem.World) : Prop := ∀ os : OsState, (endF (stepQ (denQ tabQ) r.prog w) M r.prog w os).map (fun s => looksF r.prog (boot_heap w.params) s.abs) = some true
def Run2 (r : PySem.W.OpenRow) (q : Program) (M : Nat) (loose : List Str) (w : PySem.World) : Prop := ∀ os : OsState, (endF (stepQ (denQ tabQ) r.prog w) M r.prog w os).map (fun s => seenQ q loose (importedModules r.prog.main.body) (fun s => xlAt q [] s && recOk r.toRowW.records s) s.abs) = some (openGood q loose)
def Run3 (r : PySem.W.OpenRow) (H : PySem.W.Hook) (ob : PySem.W.SharedT → H.α) (M : Nat) (w : PySem.World) : Prop := ∀ os : OsState, (endF (stepQ (denQ tabQ) r.prog w) M r.prog w os).map ob = some (H.val w)
theorem looks3 {α β γ δ : Type} {o : Option α} {f : α → β} {g : α → γ} {h : α → δ} {b : β} {c : γ} {d : δ} (h1 : o.map f = some b) (h2 : o.map g = some c) (h3 : o.map h = some d) : o.map (fun s => (f s, g s, h s)) = some (b, c, d) := by
  cases o with
  | none => cases h1
  | some s =>
    rw [Option.map_some] at h1 h2 h3
    rw [Option.map_some, Option.some.inj h1, Option.some.inj h2, Option.some.inj h3]
/-! the same hook with the addresses written out: nothing is searched in the kernel -/
def frL (as : List Addr) (s : PySem.W.SharedT) : PySem.W.Frag := He.frG (getT s) as
def Run4 (r : PySem.W.OpenRow) (as : List Addr) (fn : List DefX) (M : Nat) (w : PySem.World) : Prop := ∀ os : OsState, (endF (stepQ (denQ tabQ) r.prog w) M r.prog w os).map (fun s => He5.obsA [] (fn.map DefX.toA) (frL as s)) = some (He5.valA (fn.map DefX.toA))
def Run5 (r : PySem.W.OpenRow) (as : List Addr) (xs : List Fx) (M : Nat) (w : PySem.World) : Prop := ∀ os : OsState, (endF (stepQ (denQ tabQ) r.prog w) M r.prog w os).map (fun s => xs.all (Fx.ok (frL as s))) = some true
theorem run4_of {r : PySem.W.OpenRow} {as : List Addr} {fn : List DefX} {M : Nat} {w : PySem.World} (k : Nat) (h2 : Run4 r as (fn.take k) M w) (h3 : Run4 r as (fn.drop k) M w) : Run4 r as fn M w := fun os => by
  have b := h2 os
  have c := h3 os
  generalize endF (stepQ (denQ tabQ) r.prog w) M r.prog w os = o at b c ⊢
  cases o with
  | none => cases b
  | some s =>
    rw [Option.map_some] at b c ⊢
    have b := Option.some.inj b
    have c := Option.some.inj c
    have b1 := congrArg Prod.fst b
    have c1 := congrArg Prod.fst c
    have b2 := congrArg Prod.snd b
    have c2 := congrArg Prod.snd c
    have b1 : ((fn.take k).map DefX.toA).all (fun d => He5.DefA.ok (frL as s) d) = true := b1
    have c1 : ((fn.drop k).map DefX.toA).all (fun d => He5.DefA.ok (frL as s) d) = true := c1
    have b2 : ((fn.take k).map DefX.toA).map (fun d => He5.fnA (frL as s) (d.at_ (frL as s))) = ((fn.take k).map DefX.toA).map He5.DefA.val := b2
    have c2 : ((fn.drop k).map DefX.toA).map (fun d => He5.fnA (frL as s) (d.at_ (frL as s))) = ((fn.drop k).map DefX.toA).map He5.DefA.val := c2
    refine congrArg some (Prod.ext ?_ ?_)
    · show ((fn.map DefX.toA).all fun d => He5.DefA.ok (frL as s) d) = true
      have e : fn.map DefX.toA = (fn.take k).map DefX.toA ++ (fn.drop k).map DefX.toA := by rw [← List.map_append, List.take_append_drop]
      rw [e, List.all_append, b1, c1]
      rfl
    · show (fn.map DefX.toA).map (fun d => He5.fnA (frL as s) (d.at_ (frL as s))) = (fn.map DefX.toA).map He5.DefA.val
      have e : fn.map DefX.toA = (fn.take k).map DefX.toA ++ (fn.drop k).map DefX.toA := by rw [← List.map_append, List.take_append_drop]
      rw [e, List.map_append, List.map_append, b2, c2]
theorem run3_of {r : PySem.W.OpenRow} {as : List Addr} {xs : List Fx} {fn : List DefX} {M : Nat} {w : PySem.World} (k : Nat) (h1 : Run4 r as fn M w) (h2 : Run5 r as (xs.take k) M w) (h3 : Run5 r as (xs.drop k) M w) : Run3 r (hookL as xs fn) (fun s => obsL as xs fn (getT s)) M w := fun os => by
  have a := h1 os
  have b := h2 os
  have c := h3 os
  generalize endF (stepQ (denQ tabQ) r.prog w) M r.prog w os = o at a b c ⊢
  cases o with
  | none => cases a
  | some s =>
    rw [Option.map_some] at a b c
    have e : xs.all (Fx.ok (frL as s)) = true := by
      rw [← List.take_append_drop k xs, List.all_append, Option.some.inj b, Option.some.inj c]
      rfl
    show some (He5.obsA [] (fn.map DefX.toA) (frL as s), xs.all (Fx.ok (frL as s))) = _
    rw [e, Option.some.inj a]
    rfl
theorem runEq {r : PySem.W.OpenRow} {q : Program} {H : PySem.W.Hook} {ob : PySem.W.SharedT → H.α} {M : Nat} {loose : List Str} {w : PySem.World} (h1 : Run1 r M w) (h2 : Run2 r q M loose w) (h3 : Run3 r H ob M w) : RunEq r q H ob M loose w :=
  fun os => looks3 (h1 os) (h2 os) (h3 os)
end
/-- how the law's one argument binds -/
theorem binds1 {K : PySem.W.Frag} {x qual : Str} {st : Stmt} {f : Addr} {fd : FuncData} {p : Str} (F : Fun K x qual st f fd)
    (h : ∀ (kV doc pm : Value) (an : Option Addr) (cdv ct : Value) (u : Value), bindArgs (PySem.W.fnOf x qual (defArgs st) (defBody st) (defScope st) .none kV doc pm an cdv ct) ⟨[u], []⟩ = pure [(p, u)]) (s : Shared) (u : Value) : BindsTo s fd ⟨[u], []⟩ [(p, u)] := by
  obtain ⟨_, _, _, _, _, _, _, _, _, made, -, -⟩ := F.ex
  exact made ▸ .of_eq (h ..)
end DLz
namespace DLz
open PySem PySem.Spec PyProof.Rows L2 DL
theorem law_end {K : PySem.W.Frag} {H : Hp} {a : Addr} {ns : List Int} {R : List D → D → Prop} {E : XK} (hS : SqL K H a (ns.map V.int)) (hR : R [.lst (ns.map D.int)] (.bl true)) :
    DL.spP K 1 R [.ref a] H (fun v _ => v = .bl true) E :=
  ⟨H, [], [.dat (.lst (ns.map D.int))], [], .bl true, [], ⟨[.lst (ns.map D.int)], rfl, rfl, rfl, hR⟩, rfl, rfl, pack_slots (Same.refl H) (.cons (.lst hS (RepAll.ofInts ns)) .nil), fun B' H' v _ _ rv => by
    cases rv
    rfl⟩
end DLz
end
section
set_option Elab.async false
set_option linter.all false
set_option maxRecDepth 100000
set_option maxHeartbeats 2000000
/-! the head's facts, with tables of the module's top (texts to whole numbers) -/
namespace DLz
open PySem PySem.Spec PyProof.Rows L2
/-- a table: its name, its keys and what stands behind them -/
abbrev TabX : Type := Str × List (Str × Int)
def entB (K : PySem.W.Frag) (a : Addr) (q : Str × Int) : Bool := match PySem.W.nsIn K a q.1 with
  | some (some (.int i _)) => decide (i = q.2)
  | _ => false
abbrev AlW : Type := Al × (Bool × List (Option (List (Option (Str × Int)))))
def seenW (xs : List Fx) (fn : List DefX) (ts : List TabX) (K : PySem.W.Frag) : AlW := (seen xs fn K, ts.all (fun t => t.2.all (entB K (He.ga K t.1))), ts.map fun t => He.dicW K (He.ga K t.1))
def goodW (fn : List DefX) (ts : List TabX) (w : World) : AlW := (good fn, true, ts.map fun t => some (He.keysIn w.params (t.2.map (·.1))))
structure SaysW (xs : List Fx) (fn : List DefX) (ts : List TabX) (w : World) (K : PySem.W.Frag) : Prop where
  base : Says xs fn K
  ents : ts.all (fun t => t.2.all (entB K (He.ga K t.1))) = true
  tabs : (ts.map fun t => He.dicW K (He.ga K t.1)) = ts.map fun t => some (He.keysIn w.params (t.2.map (·.1)))
def obsW (n : Nat) (xs : List Fx) (fn : List DefX) (ts : List TabX) (g : Addr → Option Obj) : AlW := seenW xs fn ts (He.frG g (He.asG g n))
def hookW (n : Nat) (xs : List Fx) (fn : List DefX) (ts : List TabX) : PySem.W.Hook where
  α := AlW
  obs s := obsW n xs fn ts s.heap.get?
  val w := goodW fn ts w
  says w h := ∃ K : PySem.W.Frag, K.In h ∧ SaysW xs fn ts w K
  of _ _ e := ⟨He.frG _ (He.asG _ n), He.frG_in, ⟨⟨congrArg (fun z : AlW => z.1.1) e, congrArg (fun z : AlW => z.1.2) e⟩, congrArg (fun z : AlW => z.2.1) e, congrArg (fun z : AlW => z.2.2) e⟩⟩
  keeps := by
    rintro w h h' ⟨K, inside, said⟩ kept
    exact ⟨K, inside.keeps kept, said⟩
theorem obsW_eq {n : Nat} {xs : List Fx} {fn : List DefX} {ts : List TabX} {g : Addr → Option Obj} {s : Shared} (h : ∀ a, g a = s.heap.get? a) : obsW n xs fn ts g = (hookW n xs fn ts).obs s :=
  congrArg (obsW n xs fn ts) (funext h)
section
variable {xs : List Fx} {fn : List DefX} {ts : List TabX} {w : World} {K : PySem.W.Frag}
theorem SaysW.tab (c : SaysW xs fn ts w K) (i : Nat) {t : TabX} (h : ts[i]? = some t := by rfl) : ∃ es n, KDict K w (He.ga K t.1) es n := by
  have e := congrArg (fun l => l[i]?) c.tabs
  rw [List.getElem?_map, List.getElem?_map, h] at e
  exact He.dicW_ok (Option.some.inj e)
theorem SaysW.ent (c : SaysW xs fn ts w K) (i : Nat) {t : TabX} (h : ts[i]? = some t := by rfl) : ∀ q ∈ t.2, ∃ u, PySem.W.nsIn K (He.ga K t.1) q.1 = some (some u) ∧ RelV (.int q.2) u := fun q hq => by
  have a := List.all_eq_true.mp c.ents t (List.mem_of_getElem? h)
  have b := List.all_eq_true.mp a q hq
  unfold entB at b
  split at b
  · rename_i v tk e
    rw [of_decide_eq_true b] at e
    exact ⟨_, e, _, rfl⟩
  · cases b
end
end DLz
namespace DLz
open PySem PySem.Spec PyProof.Rows L2
/-- the end, with the sizes of the script's numbers known -/
theorem walk_bits {l : PySem.W.OpenLaw} {most k : Nat} {q : Program} {loose : List Str} {XP : (Str → Option Value) → Heap → Prop} {YP : World → Heap → Prop} {dr : DefRec} {p : Str}
    (isMost : l.most = some most) (few : most ≤ sizeLine) (noDef : dr.params.defaults = []) (room : Room k callerA)
    (law : ∀ (w : World) (mg : Str → Option Value) (f : Addr) (hp : Heap), YP w hp → hp.Ns mainGlobals mg → mg dr.name = some (.ref f) →
      ∃ (K : PySem.W.Frag) (fd : FuncData) (sp : Sp), K.In hp ∧ (∀ (sh : Shared) (v : Value), BindsTo sh fd ⟨[v], []⟩ [(p, v)]) ∧
        (∀ (H : Hp) (ad : Addr) (zs : List Int), zs.length ≤ most → (∀ z ∈ zs, Builtin.Int.intBits z ≤ 1048576) → SqL K H ad (zs.map V.int) → sp [.ref ad] H (fun r _ => r = .bl true) fun _ _ _ => False) ∧
        ∀ hb : Heap, K.In hb → hb.Ns mainGlobals mg → FnOk l.prog w K mg hb CX0 k f fd [p] sp) :
    PySem.W.WalkO q loose XP YP l.row.toRowW dr [] (fun f vs => PySem.call f vs) :=
  Att.attach_callB isMost noDef fun w sa sb mg mb f ob pm cd doc ad vals zs Gr said _ _ _ named lies0 whole short small noGen =>
    match law w mg f _ said Gr.T.g named with
    | ⟨_, _, _, inside, binds, ends, body⟩ =>
      law_call inside Gr.T.g Gr.T.b Gr.T.builtins Gr.T.nolimit noGen lies0 whole (Nat.le_trans short few) room body binds (fun H _ lies => ends H ad zs short small lies) fun _ _ _ never => never
end DLz
end
section
set_option Elab.async false
set_option linter.all false
set_option maxRecDepth 100000
set_option maxHeartbeats 0
namespace K33
open PySem PySem.Spec PyProof.Rows L2 DL DLz
abbrev d__wall : DefX := ⟨fun K => He.ga K "_wall", "_wall", "_wall", s__wall⟩
abbrev d_is_whole : DefX := ⟨fun K => He.ga K "is_whole", "is_whole", "is_whole", s_is_whole⟩
abbrev d_is_between : DefX := ⟨fun K => He.ga K "is_between", "is_between", "is_between", s_is_between⟩
abbrev d_is_group : DefX := ⟨fun K => He.ga K "is_group", "is_group", "is_group", s_is_group⟩
abbrev d_first_state : DefX := ⟨fun K => He.ga K "first_state", "first_state", "first_state", s_first_state⟩
abbrev d_is_done : DefX := ⟨fun K => He.ga K "is_done", "is_done", "is_done", s_is_done⟩
abbrev d_roads_from : DefX := ⟨fun K => He.ga K "roads_from", "roads_from", "roads_from", s_roads_from⟩
abbrev d_possible_moves : DefX := ⟨fun K => He.ga K "possible_moves", "possible_moves", "possible_moves", s_possible_moves⟩
abbrev d_pairs_from : DefX := ⟨fun K => He.ga K "pairs_from", "pairs_from", "pairs_from", s_pairs_from⟩
abbrev d_move_cost : DefX := ⟨fun K => He.ga K "move_cost", "move_cost", "move_cost", s_move_cost⟩
abbrev d_pieces_cost : DefX := ⟨fun K => He.ga K "pieces_cost", "pieces_cost", "pieces_cost", s_pieces_cost⟩
abbrev d_after_hour : DefX := ⟨fun K => He.ga K "after_hour", "after_hour", "after_hour", s_after_hour⟩
abbrev d_move_results : DefX := ⟨fun K => He.ga K "move_results", "move_results", "move_results", s_move_results⟩
abbrev d_Map___init__ : DefX := ⟨fun K => He.ma K (He.ga K "Map") "__init__", "__init__", "Map.__init__", s_Map___init__⟩
abbrev d_Map_places : DefX := ⟨getAd "Map" "places", "places", "Map.places", s_Map_places⟩
abbrev d_Map_roads : DefX := ⟨getAd "Map" "roads", "roads", "Map.roads", s_Map_roads⟩
abbrev d_Map_prices : DefX := ⟨getAd "Map" "prices", "prices", "Map.prices", s_Map_prices⟩
abbrev d_Map_box : DefX := ⟨getAd "Map" "box", "box", "Map.box", s_Map_box⟩
abbrev d_Map___len__ : DefX := ⟨fun K => He.ma K (He.ga K "Map") "__len__", "__len__", "Map.__len__", s_Map___len__⟩
abbrev d_are_roads : DefX := ⟨fun K => He.ga K "are_roads", "are_roads", "are_roads", s_are_roads⟩
abbrev d_is_road : DefX := ⟨fun K => He.ga K "is_road", "is_road", "is_road", s_is_road⟩
abbrev d_are_prices : DefX := ⟨fun K => He.ga K "are_prices", "are_prices", "are_prices", s_are_prices⟩
abbrev d_is_box : DefX := ⟨fun K => He.ga K "is_box", "is_box", "is_box", s_is_box⟩
abbrev d_is_state : DefX := ⟨fun K => He.ga K "is_state", "is_state", "is_state", s_is_state⟩
abbrev d_is_move : DefX := ⟨fun K => He.ga K "is_move", "is_move", "is_move", s_is_move⟩
abbrev d_check_map : DefX := ⟨fun K => He.ga K "check_map", "check_map", "check_map", s_check_map⟩
abbrev d_check_state : DefX := ⟨fun K => He.ga K "check_state", "check_state", "check_state", s_check_state⟩
abbrev d_check_lateness : DefX := ⟨fun K => He.ga K "check_lateness", "check_lateness", "check_lateness", s_check_lateness⟩
abbrev d_check_move : DefX := ⟨fun K => He.ga K "check_move", "check_move", "check_move", s_check_move⟩
abbrev d_after_log : DefX := ⟨fun K => He.ga K "after_log", "after_log", "after_log", s_after_log⟩
abbrev d_spent : DefX := ⟨fun K => He.ga K "spent", "spent", "spent", s_spent⟩
abbrev d_melted : DefX := ⟨fun K => He.ga K "melted", "melted", "melted", s_melted⟩
abbrev d_states_with : DefX := ⟨fun K => He.ga K "states_with", "states_with", "states_with", s_states_with⟩
abbrev d_states_after : DefX := ⟨fun K => He.ga K "states_after", "states_after", "states_after", s_states_after⟩
abbrev d_state_after : DefX := ⟨fun K => He.ga K "state_after", "state_after", "state_after", s_state_after⟩
abbrev d_Moment___init__ : DefX := ⟨fun K => He.ma K (He.ga K "Moment") "__init__", "__init__", "Moment.__init__", s_Moment___init__⟩
abbrev d_Session___init__ : DefX := ⟨fun K => He.ma K (He.ga K "Session") "__init__", "__init__", "Session.__init__", s_Session___init__⟩
abbrev d_Session_state : DefX := ⟨getAd "Session" "state", "state", "Session.state", s_Session_state⟩
abbrev d_Session_journal : DefX := ⟨getAd "Session" "journal", "journal", "Session.journal", s_Session_journal⟩
abbrev d_Session___len__ : DefX := ⟨fun K => He.ma K (He.ga K "Session") "__len__", "__len__", "Session.__len__", s_Session___len__⟩
abbrev d_Session___iter__ : DefX := ⟨fun K => He.ma K (He.ga K "Session") "__iter__", "__iter__", "Session.__iter__", s_Session___iter__⟩
abbrev d_Session_is_there : DefX := ⟨fun K => He.ma K (He.ga K "Session") "is_there", "is_there", "Session.is_there", s_Session_is_there⟩
abbrev d_Session_paid : DefX := ⟨fun K => He.ma K (He.ga K "Session") "paid", "paid", "Session.paid", s_Session_paid⟩
abbrev d_Session_drive : DefX := ⟨fun K => He.ma K (He.ga K "Session") "drive", "drive", "Session.drive", s_Session_drive⟩
abbrev d_Session_undo : DefX := ⟨fun K => He.ma K (He.ga K "Session") "undo", "undo", "Session.undo", s_Session_undo⟩
abbrev d_Session_branch : DefX := ⟨fun K => He.ma K (He.ga K "Session") "branch", "branch", "Session.branch", s_Session_branch⟩
abbrev d_Session_tried : DefX := ⟨fun K => He.ma K (He.ga K "Session") "tried", "tried", "Session.tried", s_Session_tried⟩
abbrev d__law_draw : DefX := ⟨fun K => He.ga K "_law_draw", "_law_draw", "_law_draw", s__law_draw⟩
abbrev d__law_cell_at : DefX := ⟨fun K => He.ga K "_law_cell_at", "_law_cell_at", "_law_cell_at", s__law_cell_at⟩
abbrev d__law_digits : DefX := ⟨fun K => He.ga K "_law_digits", "_law_digits", "_law_digits", s__law_digits⟩
abbrev d__law_take : DefX := ⟨fun K => He.ga K "_law_take", "_law_take", "_law_take", s__law_take⟩
abbrev d__law_pool : DefX := ⟨fun K => He.ga K "_law_pool", "_law_pool", "_law_pool", s__law_pool⟩
abbrev d__law_net : DefX := ⟨fun K => He.ga K "_law_net", "_law_net", "_law_net", s__law_net⟩
abbrev d__law_state : DefX := ⟨fun K => He.ga K "_law_state", "_law_state", "_law_state", s__law_state⟩
abbrev d__law_roads : DefX := ⟨fun K => He.ga K "_law_roads", "_law_roads", "_law_roads", s__law_roads⟩
abbrev d__law_load : DefX := ⟨fun K => He.ga K "_law_load", "_law_load", "_law_load", s__law_load⟩
abbrev d__law_end : DefX := ⟨fun K => He.ga K "_law_end", "_law_end", "_law_end", s__law_end⟩
abbrev d__law_moves : DefX := ⟨fun K => He.ga K "_law_moves", "_law_moves", "_law_moves", s__law_moves⟩
abbrev d__law_cost : DefX := ⟨fun K => He.ga K "_law_cost", "_law_cost", "_law_cost", s__law_cost⟩
abbrev d__law_is_empty : DefX := ⟨fun K => He.ga K "_law_is_empty", "_law_is_empty", "_law_is_empty", s__law_is_empty⟩
abbrev d__law_walked : DefX := ⟨fun K => He.ga K "_law_walked", "_law_walked", "_law_walked", s__law_walked⟩
abbrev d__law_price : DefX := ⟨fun K => He.ga K "_law_price", "_law_price", "_law_price", s__law_price⟩
abbrev d__law_right : DefX := ⟨fun K => He.ga K "_law_right", "_law_right", "_law_right", s__law_right⟩
abbrev d__law_note : DefX := ⟨fun K => He.ga K "_law_note", "_law_note", "_law_note", s__law_note⟩
abbrev d__law_branch_right : DefX := ⟨fun K => He.ga K "_law_branch_right", "_law_branch_right", "_law_branch_right", s__law_branch_right⟩
abbrev d__law_log_right : DefX := ⟨fun K => He.ga K "_law_log_right", "_law_log_right", "_law_log_right", s__law_log_right⟩
abbrev d_law : DefX := ⟨fun K => He.ga K "law", "law", "law", s_law⟩
def fnL : List DefX := [d__wall, d_is_whole, d_is_between, d_is_group, d_first_state, d_is_done, d_roads_from, d_possible_moves, d_pairs_from, d_move_cost, d_pieces_cost, d_after_hour, d_move_results, d_Map___init__, d_Map_places, d_Map_roads, d_Map_prices, d_Map_box, d_Map___len__, d_are_roads, d_is_road, d_are_prices, d_is_box, d_is_state, d_is_move, d_check_map, d_check_state, d_check_lateness, d_check_move, d_after_log, d_spent, d_melted, d_states_with, d_states_after, d_state_after, d_Moment___init__, d_Session___init__, d_Session_state, d_Session_journal, d_Session___len__, d_Session___iter__, d_Session_is_there, d_Session_paid, d_Session_drive, d_Session_undo, d_Session_branch, d_Session_tried, d__law_draw, d__law_cell_at, d__law_digits, d__law_take, d__law_pool, d__law_net, d__law_state, d__law_roads, d__law_load, d__law_end, d__law_moves, d__law_cost, d__law_is_empty, d__law_walked, d__law_price, d__law_right, d__law_note, d__law_branch_right, d__law_log_right, d_law]
def faL : List Fx := [.fa (.glo "_wall"), .fa (.glo "is_whole"), .fa (.glo "is_between"), .fa (.glo "is_group"), .fa (.glo "first_state"), .fa (.glo "is_done"), .fa (.glo "roads_from"), .fa (.glo "possible_moves"), .fa (.glo "pairs_from"), .fa (.glo "move_cost"), .fa (.glo "pieces_cost"), .fa (.glo "after_hour"), .fa (.glo "move_results"), .fa (.glo "are_roads"), .fa (.glo "is_road"), .fa (.glo "are_prices"), .fa (.glo "is_box"), .fa (.glo "is_state"), .fa (.glo "is_move"), .fa (.glo "check_map"), .fa (.glo "check_state"), .fa (.glo "check_lateness"), .fa (.glo "check_move"), .fa (.glo "after_log"), .fa (.glo "spent"), .fa (.glo "melted"), .fa (.glo "states_with"), .fa (.glo "states_after"), .fa (.glo "state_after"), .fa (.glo "_law_draw"), .fa (.glo "_law_cell_at"), .fa (.glo "_law_digits"), .fa (.glo "_law_take"), .fa (.glo "_law_pool"), .fa (.glo "_law_net"), .fa (.glo "_law_state"), .fa (.glo "_law_roads"), .fa (.glo "_law_load"), .fa (.glo "_law_end"), .fa (.glo "_law_moves"), .fa (.glo "_law_cost"), .fa (.glo "_law_is_empty"), .fa (.glo "_law_walked"), .fa (.glo "_law_price"), .fa (.glo "_law_right"), .fa (.glo "_law_note"), .fa (.glo "_law_branch_right"), .fa (.glo "_law_log_right"), .fa (.glo "law"), .fa (.glo "Map"), .fa (.cls "Map"), .isi "Map", .fa (.mkr "Map"), .fa (.noat "Map" "_places"), .fa (.noat "Map" "_roads"), .fa (.noat "Map" "_prices"), .fa (.noat "Map" "_box"), .prop "Map" "places", .prop "Map" "roads", .prop "Map" "prices", .prop "Map" "box", .fa (.meth "Map" "__len__"), .fa (.glo "Session"), .fa (.cls "Session"), .isi "Session", .fa (.mkr "Session"), .fa (.noat "Session" "_chart"), .fa (.noat "Session" "_now"), .prop "Session" "state", .prop "Session" "journal", .fa (.meth "Session" "__len__"), .fa (.meth "Session" "__iter__"), .fa (.meth "Session" "is_there"), .fa (.meth "Session" "paid"), .fa (.meth "Session" "drive"), .fa (.meth "Session" "undo"), .fa (.meth "Session" "branch"), .fa (.meth "Session" "tried"), .fa (.glo "Moment"), .fa (.cls "Moment"), .isi "Moment", .fa (.mkr "Moment"), .fa (.noat "Moment" "states"), .fa (.noat "Moment" "pairs"), .fa (.noat "Moment" "begin"), .fa (.glo "NothingDone"), .fa (.exc "NothingDone"), .fa (.exm "NothingDone" "NothingDone" true), .fa (.free "len"), .fa (.free "range"), .fa (.free "isinstance"), .fa (.free "all"), .fa (.free "zip"), .fa (.free "enumerate"), .fa (.free "sorted"), .fa (.free "set"), .fa (.free "min"), .fa (.free "int"), .fa (.free "bool"), .fa (.free "tuple"), .fa (.free "list"), .fa (.free "iter"), .fa (.free "sum"), .fa (.free "abs"), .fa (.int "MOST_PLACES" (5)), .fa (.int "MOST_ROADS" (7)), .fa (.int "MOST_HOURS" (4)), .fa (.int "MOST_MELT" (3)), .fa (.int "MOST_PRICE" (9)), .fa (.int "MOST_ROOM" (6)), .fa (.int "MOST_BEAR" (2)), .fa (.int "MOST_LATE" (4)), .fa (.int "MOST_PAIRS" (12))]
theorem txt_of {K : PySem.W.Frag} {h : Heap} {mg : Str → Option Value} (X : K.In h) (G : h.Ns mainGlobals mg) (c : Says faL fnL K) : Nonempty (Txt K mg) := by
  obtain ⟨fd__wall, F__wall⟩ := c.def_ 0 (d := d__wall) rfl
  obtain ⟨fd_is_whole, F_is_whole⟩ := c.def_ 1 (d := d_is_whole) rfl
  obtain ⟨fd_is_between, F_is_between⟩ := c.def_ 2 (d := d_is_between) rfl
  obtain ⟨fd_is_group, F_is_group⟩ := c.def_ 3 (d := d_is_group) rfl
  obtain ⟨fd_first_state, F_first_state⟩ := c.def_ 4 (d := d_first_state) rfl
  obtain ⟨fd_is_done, F_is_done⟩ := c.def_ 5 (d := d_is_done) rfl
  obtain ⟨fd_roads_from, F_roads_from⟩ := c.def_ 6 (d := d_roads_from) rfl
  obtain ⟨fd_possible_moves, F_possible_moves⟩ := c.def_ 7 (d := d_possible_moves) rfl
  obtain ⟨fd_pairs_from, F_pairs_from⟩ := c.def_ 8 (d := d_pairs_from) rfl
  obtain ⟨fd_move_cost, F_move_cost⟩ := c.def_ 9 (d := d_move_cost) rfl
  obtain ⟨fd_pieces_cost, F_pieces_cost⟩ := c.def_ 10 (d := d_pieces_cost) rfl
  obtain ⟨fd_after_hour, F_after_hour⟩ := c.def_ 11 (d := d_after_hour) rfl
  obtain ⟨fd_move_results, F_move_results⟩ := c.def_ 12 (d := d_move_results) rfl
  obtain ⟨fd_Map___init__, F_Map___init__⟩ := c.def_ 13 (d := d_Map___init__) rfl
  obtain ⟨fd_Map_places, F_Map_places⟩ := c.def_ 14 (d := d_Map_places) rfl
  obtain ⟨fd_Map_roads, F_Map_roads⟩ := c.def_ 15 (d := d_Map_roads) rfl
  obtain ⟨fd_Map_prices, F_Map_prices⟩ := c.def_ 16 (d := d_Map_prices) rfl
  obtain ⟨fd_Map_box, F_Map_box⟩ := c.def_ 17 (d := d_Map_box) rfl
  obtain ⟨fd_Map___len__, F_Map___len__⟩ := c.def_ 18 (d := d_Map___len__) rfl
  obtain ⟨fd_are_roads, F_are_roads⟩ := c.def_ 19 (d := d_are_roads) rfl
  obtain ⟨fd_is_road, F_is_road⟩ := c.def_ 20 (d := d_is_road) rfl
  obtain ⟨fd_are_prices, F_are_prices⟩ := c.def_ 21 (d := d_are_prices) rfl
  obtain ⟨fd_is_box, F_is_box⟩ := c.def_ 22 (d := d_is_box) rfl
  obtain ⟨fd_is_state, F_is_state⟩ := c.def_ 23 (d := d_is_state) rfl
  obtain ⟨fd_is_move, F_is_move⟩ := c.def_ 24 (d := d_is_move) rfl
  obtain ⟨fd_check_map, F_check_map⟩ := c.def_ 25 (d := d_check_map) rfl
  obtain ⟨fd_check_state, F_check_state⟩ := c.def_ 26 (d := d_check_state) rfl
  obtain ⟨fd_check_lateness, F_check_lateness⟩ := c.def_ 27 (d := d_check_lateness) rfl
  obtain ⟨fd_check_move, F_check_move⟩ := c.def_ 28 (d := d_check_move) rfl
  obtain ⟨fd_after_log, F_after_log⟩ := c.def_ 29 (d := d_after_log) rfl
  obtain ⟨fd_spent, F_spent⟩ := c.def_ 30 (d := d_spent) rfl
  obtain ⟨fd_melted, F_melted⟩ := c.def_ 31 (d := d_melted) rfl
  obtain ⟨fd_states_with, F_states_with⟩ := c.def_ 32 (d := d_states_with) rfl
  obtain ⟨fd_states_after, F_states_after⟩ := c.def_ 33 (d := d_states_after) rfl
  obtain ⟨fd_state_after, F_state_after⟩ := c.def_ 34 (d := d_state_after) rfl
  obtain ⟨fd_Moment___init__, F_Moment___init__⟩ := c.def_ 35 (d := d_Moment___init__) rfl
  obtain ⟨fd_Session___init__, F_Session___init__⟩ := c.def_ 36 (d := d_Session___init__) rfl
  obtain ⟨fd_Session_state, F_Session_state⟩ := c.def_ 37 (d := d_Session_state) rfl
  obtain ⟨fd_Session_journal, F_Session_journal⟩ := c.def_ 38 (d := d_Session_journal) rfl
  obtain ⟨fd_Session___len__, F_Session___len__⟩ := c.def_ 39 (d := d_Session___len__) rfl
  obtain ⟨fd_Session___iter__, F_Session___iter__⟩ := c.def_ 40 (d := d_Session___iter__) rfl
  obtain ⟨fd_Session_is_there, F_Session_is_there⟩ := c.def_ 41 (d := d_Session_is_there) rfl
  obtain ⟨fd_Session_paid, F_Session_paid⟩ := c.def_ 42 (d := d_Session_paid) rfl
  obtain ⟨fd_Session_drive, F_Session_drive⟩ := c.def_ 43 (d := d_Session_drive) rfl
  obtain ⟨fd_Session_undo, F_Session_undo⟩ := c.def_ 44 (d := d_Session_undo) rfl
  obtain ⟨fd_Session_branch, F_Session_branch⟩ := c.def_ 45 (d := d_Session_branch) rfl
  obtain ⟨fd_Session_tried, F_Session_tried⟩ := c.def_ 46 (d := d_Session_tried) rfl
  obtain ⟨fd__law_draw, F__law_draw⟩ := c.def_ 47 (d := d__law_draw) rfl
  obtain ⟨fd__law_cell_at, F__law_cell_at⟩ := c.def_ 48 (d := d__law_cell_at) rfl
  obtain ⟨fd__law_digits, F__law_digits⟩ := c.def_ 49 (d := d__law_digits) rfl
  obtain ⟨fd__law_take, F__law_take⟩ := c.def_ 50 (d := d__law_take) rfl
  obtain ⟨fd__law_pool, F__law_pool⟩ := c.def_ 51 (d := d__law_pool) rfl
  obtain ⟨fd__law_net, F__law_net⟩ := c.def_ 52 (d := d__law_net) rfl
  obtain ⟨fd__law_state, F__law_state⟩ := c.def_ 53 (d := d__law_state) rfl
  obtain ⟨fd__law_roads, F__law_roads⟩ := c.def_ 54 (d := d__law_roads) rfl
  obtain ⟨fd__law_load, F__law_load⟩ := c.def_ 55 (d := d__law_load) rfl
  obtain ⟨fd__law_end, F__law_end⟩ := c.def_ 56 (d := d__law_end) rfl
  obtain ⟨fd__law_moves, F__law_moves⟩ := c.def_ 57 (d := d__law_moves) rfl
  obtain ⟨fd__law_cost, F__law_cost⟩ := c.def_ 58 (d := d__law_cost) rfl
  obtain ⟨fd__law_is_empty, F__law_is_empty⟩ := c.def_ 59 (d := d__law_is_empty) rfl
  obtain ⟨fd__law_walked, F__law_walked⟩ := c.def_ 60 (d := d__law_walked) rfl
  obtain ⟨fd__law_price, F__law_price⟩ := c.def_ 61 (d := d__law_price) rfl
  obtain ⟨fd__law_right, F__law_right⟩ := c.def_ 62 (d := d__law_right) rfl
  obtain ⟨fd__law_note, F__law_note⟩ := c.def_ 63 (d := d__law_note) rfl
  obtain ⟨fd__law_branch_right, F__law_branch_right⟩ := c.def_ 64 (d := d__law_branch_right) rfl
  obtain ⟨fd__law_log_right, F__law_log_right⟩ := c.def_ 65 (d := d__law_log_right) rfl
  obtain ⟨fd_law, F_law⟩ := c.def_ 66 (d := d_law) rfl
  refine ⟨{
    a__wall := d__wall.adr K
    fd__wall := fd__wall
    F__wall := F__wall
    b__wall := F__wall.binds (ps := ["k"]) (fun _ _ _ _ _ _ us hl => match us, hl with | [_], _ => rfl)
    g__wall := He.glo_ok X G (c.fact 0 (f := .fa (.glo "_wall")) rfl)
    a_is_whole := d_is_whole.adr K
    fd_is_whole := fd_is_whole
    F_is_whole := F_is_whole
    b_is_whole := F_is_whole.binds (ps := ["value"]) (fun _ _ _ _ _ _ us hl => match us, hl with | [_], _ => rfl)
    g_is_whole := He.glo_ok X G (c.fact 1 (f := .fa (.glo "is_whole")) rfl)
    a_is_between := d_is_between.adr K
    fd_is_between := fd_is_between
    F_is_between := F_is_between
    b_is_between := F_is_between.binds (ps := ["value", "low", "high"]) (fun _ _ _ _ _ _ us hl => match us, hl with | [_, _, _], _ => rfl)
    g_is_between := He.glo_ok X G (c.fact 2 (f := .fa (.glo "is_between")) rfl)
    a_is_group := d_is_group.adr K
    fd_is_group := fd_is_group
    F_is_group := F_is_group
    b_is_group := F_is_group.binds (ps := ["value", "size"]) (fun _ _ _ _ _ _ us hl => match us, hl with | [_, _], _ => rfl)
    g_is_group := He.glo_ok X G (c.fact 3 (f := .fa (.glo "is_group")) rfl)
    a_first_state := d_first_state.adr K
    fd_first_state := fd_first_state
    F_first_state := F_first_state
    b_first_state := F_first_state.binds (ps := ["late"]) (fun _ _ _ _ _ _ us hl => match us, hl with | [_], _ => rfl)
    g_first_state := He.glo_ok X G (c.fact 4 (f := .fa (.glo "first_state")) rfl)
    a_is_done := d_is_done.adr K
    fd_is_done := fd_is_done
    F_is_done := F_is_done
    b_is_done := F_is_done.binds (ps := ["chart", "state"]) (fun _ _ _ _ _ _ us hl => match us, hl with | [_, _], _ => rfl)
    g_is_done := He.glo_ok X G (c.fact 5 (f := .fa (.glo "is_done")) rfl)
    a_roads_from := d_roads_from.adr K
    fd_roads_from := fd_roads_from
    F_roads_from := F_roads_from
    b_roads_from := F_roads_from.binds (ps := ["chart", "place"]) (fun _ _ _ _ _ _ us hl => match us, hl with | [_, _], _ => rfl)
    g_roads_from := He.glo_ok X G (c.fact 6 (f := .fa (.glo "roads_from")) rfl)
    a_possible_moves := d_possible_moves.adr K
    fd_possible_moves := fd_possible_moves
    F_possible_moves := F_possible_moves
    b_possible_moves := F_possible_moves.binds (ps := ["chart", "state"]) (fun _ _ _ _ _ _ us hl => match us, hl with | [_, _], _ => rfl)
    g_possible_moves := He.glo_ok X G (c.fact 7 (f := .fa (.glo "possible_moves")) rfl)
    a_pairs_from := d_pairs_from.adr K
    fd_pairs_from := fd_pairs_from
    F_pairs_from := F_pairs_from
    b_pairs_from := F_pairs_from.binds (ps := ["chart", "place", "most"]) (fun _ _ _ _ _ _ us hl => match us, hl with | [_, _, _], _ => rfl)
    g_pairs_from := He.glo_ok X G (c.fact 8 (f := .fa (.glo "pairs_from")) rfl)
    a_move_cost := d_move_cost.adr K
    fd_move_cost := fd_move_cost
    F_move_cost := F_move_cost
    b_move_cost := F_move_cost.binds (ps := ["chart", "state", "move"]) (fun _ _ _ _ _ _ us hl => match us, hl with | [_, _, _], _ => rfl)
    g_move_cost := He.glo_ok X G (c.fact 9 (f := .fa (.glo "move_cost")) rfl)
    a_pieces_cost := d_pieces_cost.adr K
    fd_pieces_cost := fd_pieces_cost
    F_pieces_cost := F_pieces_cost
    b_pieces_cost := F_pieces_cost.binds (ps := ["chart", "place", "pieces"]) (fun _ _ _ _ _ _ us hl => match us, hl with | [_, _, _], _ => rfl)
    g_pieces_cost := He.glo_ok X G (c.fact 10 (f := .fa (.glo "pieces_cost")) rfl)
    a_after_hour := d_after_hour.adr K
    fd_after_hour := fd_after_hour
    F_after_hour := F_after_hour
    b_after_hour := F_after_hour.binds (ps := ["ice", "warm", "melt"]) (fun _ _ _ _ _ _ us hl => match us, hl with | [_, _, _], _ => rfl)
    g_after_hour := He.glo_ok X G (c.fact 11 (f := .fa (.glo "after_hour")) rfl)
    a_move_results := d_move_results.adr K
    fd_move_results := fd_move_results
    F_move_results := F_move_results
    b_move_results := F_move_results.binds (ps := ["chart", "state", "move"]) (fun _ _ _ _ _ _ us hl => match us, hl with | [_, _, _], _ => rfl)
    g_move_results := He.glo_ok X G (c.fact 12 (f := .fa (.glo "move_results")) rfl)
    a_Map___init__ := d_Map___init__.adr K
    fd_Map___init__ := fd_Map___init__
    F_Map___init__ := F_Map___init__
    b_Map___init__ := F_Map___init__.binds (ps := ["self", "places", "roads", "prices", "box"]) (fun _ _ _ _ _ _ us hl => match us, hl with | [_, _, _, _, _], _ => rfl)
    a_Map_places := d_Map_places.adr K
    fd_Map_places := fd_Map_places
    F_Map_places := F_Map_places
    b_Map_places := F_Map_places.binds (ps := ["self"]) (fun _ _ _ _ _ _ us hl => match us, hl with | [_], _ => rfl)
    a_Map_roads := d_Map_roads.adr K
    fd_Map_roads := fd_Map_roads
    F_Map_roads := F_Map_roads
    b_Map_roads := F_Map_roads.binds (ps := ["self"]) (fun _ _ _ _ _ _ us hl => match us, hl with | [_], _ => rfl)
    a_Map_prices := d_Map_prices.adr K
    fd_Map_prices := fd_Map_prices
    F_Map_prices := F_Map_prices
    b_Map_prices := F_Map_prices.binds (ps := ["self"]) (fun _ _ _ _ _ _ us hl => match us, hl with | [_], _ => rfl)
    a_Map_box := d_Map_box.adr K
    fd_Map_box := fd_Map_box
    F_Map_box := F_Map_box
    b_Map_box := F_Map_box.binds (ps := ["self"]) (fun _ _ _ _ _ _ us hl => match us, hl with | [_], _ => rfl)
    a_Map___len__ := d_Map___len__.adr K
    fd_Map___len__ := fd_Map___len__
    F_Map___len__ := F_Map___len__
    b_Map___len__ := F_Map___len__.binds (ps := ["self"]) (fun _ _ _ _ _ _ us hl => match us, hl with | [_], _ => rfl)
    a_are_roads := d_are_roads.adr K
    fd_are_roads := fd_are_roads
    F_are_roads := F_are_roads
    b_are_roads := F_are_roads.binds (ps := ["places", "roads"]) (fun _ _ _ _ _ _ us hl => match us, hl with | [_, _], _ => rfl)
    g_are_roads := He.glo_ok X G (c.fact 13 (f := .fa (.glo "are_roads")) rfl)
    a_is_road := d_is_road.adr K
    fd_is_road := fd_is_road
    F_is_road := F_is_road
    b_is_road := F_is_road.binds (ps := ["places", "road"]) (fun _ _ _ _ _ _ us hl => match us, hl with | [_, _], _ => rfl)
    g_is_road := He.glo_ok X G (c.fact 14 (f := .fa (.glo "is_road")) rfl)
    a_are_prices := d_are_prices.adr K
    fd_are_prices := fd_are_prices
    F_are_prices := F_are_prices
    b_are_prices := F_are_prices.binds (ps := ["places", "prices"]) (fun _ _ _ _ _ _ us hl => match us, hl with | [_, _], _ => rfl)
    g_are_prices := He.glo_ok X G (c.fact 15 (f := .fa (.glo "are_prices")) rfl)
    a_is_box := d_is_box.adr K
    fd_is_box := fd_is_box
    F_is_box := F_is_box
    b_is_box := F_is_box.binds (ps := ["box"]) (fun _ _ _ _ _ _ us hl => match us, hl with | [_], _ => rfl)
    g_is_box := He.glo_ok X G (c.fact 16 (f := .fa (.glo "is_box")) rfl)
    a_is_state := d_is_state.adr K
    fd_is_state := fd_is_state
    F_is_state := F_is_state
    b_is_state := F_is_state.binds (ps := ["chart", "state"]) (fun _ _ _ _ _ _ us hl => match us, hl with | [_, _], _ => rfl)
    g_is_state := He.glo_ok X G (c.fact 17 (f := .fa (.glo "is_state")) rfl)
    a_is_move := d_is_move.adr K
    fd_is_move := fd_is_move
    F_is_move := F_is_move
    b_is_move := F_is_move.binds (ps := ["chart", "state", "move"]) (fun _ _ _ _ _ _ us hl => match us, hl with | [_, _, _], _ => rfl)
    g_is_move := He.glo_ok X G (c.fact 18 (f := .fa (.glo "is_move")) rfl)
    a_check_map := d_check_map.adr K
    fd_check_map := fd_check_map
    F_check_map := F_check_map
    b_check_map := F_check_map.binds (ps := ["chart"]) (fun _ _ _ _ _ _ us hl => match us, hl with | [_], _ => rfl)
    g_check_map := He.glo_ok X G (c.fact 19 (f := .fa (.glo "check_map")) rfl)
    a_check_state := d_check_state.adr K
    fd_check_state := fd_check_state
    F_check_state := F_check_state
    b_check_state := F_check_state.binds (ps := ["chart", "state"]) (fun _ _ _ _ _ _ us hl => match us, hl with | [_, _], _ => rfl)
    g_check_state := He.glo_ok X G (c.fact 20 (f := .fa (.glo "check_state")) rfl)
    a_check_lateness := d_check_lateness.adr K
    fd_check_lateness := fd_check_lateness
    F_check_lateness := F_check_lateness
    b_check_lateness := F_check_lateness.binds (ps := ["late"]) (fun _ _ _ _ _ _ us hl => match us, hl with | [_], _ => rfl)
    g_check_lateness := He.glo_ok X G (c.fact 21 (f := .fa (.glo "check_lateness")) rfl)
    a_check_move := d_check_move.adr K
    fd_check_move := fd_check_move
    F_check_move := F_check_move
    b_check_move := F_check_move.binds (ps := ["chart", "state", "move"]) (fun _ _ _ _ _ _ us hl => match us, hl with | [_, _, _], _ => rfl)
    g_check_move := He.glo_ok X G (c.fact 22 (f := .fa (.glo "check_move")) rfl)
    a_after_log := d_after_log.adr K
    fd_after_log := fd_after_log
    F_after_log := F_after_log
    b_after_log := F_after_log.binds (ps := ["chart", "state", "log"]) (fun _ _ _ _ _ _ us hl => match us, hl with | [_, _, _], _ => rfl)
    g_after_log := He.glo_ok X G (c.fact 23 (f := .fa (.glo "after_log")) rfl)
    a_spent := d_spent.adr K
    fd_spent := fd_spent
    F_spent := F_spent
    b_spent := F_spent.binds (ps := ["chart", "state", "log"]) (fun _ _ _ _ _ _ us hl => match us, hl with | [_, _, _], _ => rfl)
    g_spent := He.glo_ok X G (c.fact 24 (f := .fa (.glo "spent")) rfl)
    a_melted := d_melted.adr K
    fd_melted := fd_melted
    F_melted := F_melted
    b_melted := F_melted.binds (ps := ["chart", "state", "log"]) (fun _ _ _ _ _ _ us hl => match us, hl with | [_, _, _], _ => rfl)
    g_melted := He.glo_ok X G (c.fact 25 (f := .fa (.glo "melted")) rfl)
    a_states_with := d_states_with.adr K
    fd_states_with := fd_states_with
    F_states_with := F_states_with
    b_states_with := F_states_with.binds (ps := ["chart", "state", "log"]) (fun _ _ _ _ _ _ us hl => match us, hl with | [_, _, _], _ => rfl)
    g_states_with := He.glo_ok X G (c.fact 26 (f := .fa (.glo "states_with")) rfl)
    a_states_after := d_states_after.adr K
    fd_states_after := fd_states_after
    F_states_after := F_states_after
    b_states_after := F_states_after.binds (ps := ["chart", "state", "log"]) (fun _ _ _ _ _ _ us hl => match us, hl with | [_, _, _], _ => rfl)
    g_states_after := He.glo_ok X G (c.fact 27 (f := .fa (.glo "states_after")) rfl)
    a_state_after := d_state_after.adr K
    fd_state_after := fd_state_after
    F_state_after := F_state_after
    b_state_after := F_state_after.binds (ps := ["chart", "state", "pair"]) (fun _ _ _ _ _ _ us hl => match us, hl with | [_, _, _], _ => rfl)
    g_state_after := He.glo_ok X G (c.fact 28 (f := .fa (.glo "state_after")) rfl)
    a_Moment___init__ := d_Moment___init__.adr K
    fd_Moment___init__ := fd_Moment___init__
    F_Moment___init__ := F_Moment___init__
    b_Moment___init__ := F_Moment___init__.binds (ps := ["self", "states", "pairs", "begin"]) (fun _ _ _ _ _ _ us hl => match us, hl with | [_, _, _, _], _ => rfl)
    a_Session___init__ := d_Session___init__.adr K
    fd_Session___init__ := fd_Session___init__
    F_Session___init__ := F_Session___init__
    b_Session___init__ := F_Session___init__.binds (ps := ["self", "chart", "late"]) (fun _ _ _ _ _ _ us hl => match us, hl with | [_, _, _], _ => rfl)
    a_Session_state := d_Session_state.adr K
    fd_Session_state := fd_Session_state
    F_Session_state := F_Session_state
    b_Session_state := F_Session_state.binds (ps := ["self"]) (fun _ _ _ _ _ _ us hl => match us, hl with | [_], _ => rfl)
    a_Session_journal := d_Session_journal.adr K
    fd_Session_journal := fd_Session_journal
    F_Session_journal := F_Session_journal
    b_Session_journal := F_Session_journal.binds (ps := ["self"]) (fun _ _ _ _ _ _ us hl => match us, hl with | [_], _ => rfl)
    a_Session___len__ := d_Session___len__.adr K
    fd_Session___len__ := fd_Session___len__
    F_Session___len__ := F_Session___len__
    b_Session___len__ := F_Session___len__.binds (ps := ["self"]) (fun _ _ _ _ _ _ us hl => match us, hl with | [_], _ => rfl)
    a_Session___iter__ := d_Session___iter__.adr K
    fd_Session___iter__ := fd_Session___iter__
    F_Session___iter__ := F_Session___iter__
    b_Session___iter__ := F_Session___iter__.binds (ps := ["self"]) (fun _ _ _ _ _ _ us hl => match us, hl with | [_], _ => rfl)
    a_Session_is_there := d_Session_is_there.adr K
    fd_Session_is_there := fd_Session_is_there
    F_Session_is_there := F_Session_is_there
    b_Session_is_there := F_Session_is_there.binds (ps := ["self"]) (fun _ _ _ _ _ _ us hl => match us, hl with | [_], _ => rfl)
    a_Session_paid := d_Session_paid.adr K
    fd_Session_paid := fd_Session_paid
    F_Session_paid := F_Session_paid
    b_Session_paid := F_Session_paid.binds (ps := ["self"]) (fun _ _ _ _ _ _ us hl => match us, hl with | [_], _ => rfl)
    a_Session_drive := d_Session_drive.adr K
    fd_Session_drive := fd_Session_drive
    F_Session_drive := F_Session_drive
    b_Session_drive := F_Session_drive.binds (ps := ["self", "move", "more"]) (fun _ _ _ _ _ _ us hl => match us, hl with | [_, _, _], _ => rfl)
    a_Session_undo := d_Session_undo.adr K
    fd_Session_undo := fd_Session_undo
    F_Session_undo := F_Session_undo
    b_Session_undo := F_Session_undo.binds (ps := ["self"]) (fun _ _ _ _ _ _ us hl => match us, hl with | [_], _ => rfl)
    a_Session_branch := d_Session_branch.adr K
    fd_Session_branch := fd_Session_branch
    F_Session_branch := F_Session_branch
    b_Session_branch := F_Session_branch.binds (ps := ["self"]) (fun _ _ _ _ _ _ us hl => match us, hl with | [_], _ => rfl)
    a_Session_tried := d_Session_tried.adr K
    fd_Session_tried := fd_Session_tried
    F_Session_tried := F_Session_tried
    b_Session_tried := F_Session_tried.binds (ps := ["self", "log"]) (fun _ _ _ _ _ _ us hl => match us, hl with | [_, _], _ => rfl)
    a__law_draw := d__law_draw.adr K
    fd__law_draw := fd__law_draw
    F__law_draw := F__law_draw
    b__law_draw := F__law_draw.binds (ps := ["_law_cell", "_law_k", "_law_many"]) (fun _ _ _ _ _ _ us hl => match us, hl with | [_, _, _], _ => rfl)
    g__law_draw := He.glo_ok X G (c.fact 29 (f := .fa (.glo "_law_draw")) rfl)
    a__law_cell_at := d__law_cell_at.adr K
    fd__law_cell_at := fd__law_cell_at
    F__law_cell_at := F__law_cell_at
    b__law_cell_at := F__law_cell_at.binds (ps := ["_law_script", "_law_k"]) (fun _ _ _ _ _ _ us hl => match us, hl with | [_, _], _ => rfl)
    g__law_cell_at := He.glo_ok X G (c.fact 30 (f := .fa (.glo "_law_cell_at")) rfl)
    a__law_digits := d__law_digits.adr K
    fd__law_digits := fd__law_digits
    F__law_digits := F__law_digits
    b__law_digits := F__law_digits.binds (ps := ["_law_script", "_law_at", "_law_many", "_law_base"]) (fun _ _ _ _ _ _ us hl => match us, hl with | [_, _, _, _], _ => rfl)
    g__law_digits := He.glo_ok X G (c.fact 31 (f := .fa (.glo "_law_digits")) rfl)
    a__law_take := d__law_take.adr K
    fd__law_take := fd__law_take
    F__law_take := F__law_take
    b__law_take := F__law_take.binds (ps := ["_law_draws", "_law_many"]) (fun _ _ _ _ _ _ us hl => match us, hl with | [_, _], _ => rfl)
    g__law_take := He.glo_ok X G (c.fact 32 (f := .fa (.glo "_law_take")) rfl)
    a__law_pool := d__law_pool.adr K
    fd__law_pool := fd__law_pool
    F__law_pool := F__law_pool
    b__law_pool := F__law_pool.binds (ps := ["_law_script", "_law_bases"]) (fun _ _ _ _ _ _ us hl => match us, hl with | [_, _], _ => rfl)
    g__law_pool := He.glo_ok X G (c.fact 33 (f := .fa (.glo "_law_pool")) rfl)
    a__law_net := d__law_net.adr K
    fd__law_net := fd__law_net
    F__law_net := F__law_net
    b__law_net := F__law_net.binds (ps := ["_law_draws", "_law_most"]) (fun _ _ _ _ _ _ us hl => match us, hl with | [_, _], _ => rfl)
    g__law_net := He.glo_ok X G (c.fact 34 (f := .fa (.glo "_law_net")) rfl)
    a__law_state := d__law_state.adr K
    fd__law_state := fd__law_state
    F__law_state := F__law_state
    b__law_state := F__law_state.binds (ps := ["_law_draws", "_law_net_here"]) (fun _ _ _ _ _ _ us hl => match us, hl with | [_, _], _ => rfl)
    g__law_state := He.glo_ok X G (c.fact 35 (f := .fa (.glo "_law_state")) rfl)
    a__law_roads := d__law_roads.adr K
    fd__law_roads := fd__law_roads
    F__law_roads := F__law_roads
    b__law_roads := F__law_roads.binds (ps := ["_law_net_here", "_law_place"]) (fun _ _ _ _ _ _ us hl => match us, hl with | [_, _], _ => rfl)
    g__law_roads := He.glo_ok X G (c.fact 36 (f := .fa (.glo "_law_roads")) rfl)
    a__law_load := d__law_load.adr K
    fd__law_load := fd__law_load
    F__law_load := F__law_load
    b__law_load := F__law_load.binds (ps := ["_law_net_here", "_law_ice", "_law_warm", "_law_melt", "_law_hours"]) (fun _ _ _ _ _ _ us hl => match us, hl with | [_, _, _, _, _], _ => rfl)
    g__law_load := He.glo_ok X G (c.fact 37 (f := .fa (.glo "_law_load")) rfl)
    a__law_end := d__law_end.adr K
    fd__law_end := fd__law_end
    F__law_end := F__law_end
    b__law_end := F__law_end.binds (ps := ["_law_net_here", "_law_state_here", "_law_move", "_law_more"]) (fun _ _ _ _ _ _ us hl => match us, hl with | [_, _, _, _], _ => rfl)
    g__law_end := He.glo_ok X G (c.fact 38 (f := .fa (.glo "_law_end")) rfl)
    a__law_moves := d__law_moves.adr K
    fd__law_moves := fd__law_moves
    F__law_moves := F__law_moves
    b__law_moves := F__law_moves.binds (ps := ["_law_net_here", "_law_state_here"]) (fun _ _ _ _ _ _ us hl => match us, hl with | [_, _], _ => rfl)
    g__law_moves := He.glo_ok X G (c.fact 39 (f := .fa (.glo "_law_moves")) rfl)
    a__law_cost := d__law_cost.adr K
    fd__law_cost := fd__law_cost
    F__law_cost := F__law_cost
    b__law_cost := F__law_cost.binds (ps := ["_law_net_here", "_law_place", "_law_move"]) (fun _ _ _ _ _ _ us hl => match us, hl with | [_, _, _], _ => rfl)
    g__law_cost := He.glo_ok X G (c.fact 40 (f := .fa (.glo "_law_cost")) rfl)
    a__law_is_empty := d__law_is_empty.adr K
    fd__law_is_empty := fd__law_is_empty
    F__law_is_empty := F__law_is_empty
    b__law_is_empty := F__law_is_empty.binds (ps := ["_law_session"]) (fun _ _ _ _ _ _ us hl => match us, hl with | [_], _ => rfl)
    g__law_is_empty := He.glo_ok X G (c.fact 41 (f := .fa (.glo "_law_is_empty")) rfl)
    a__law_walked := d__law_walked.adr K
    fd__law_walked := fd__law_walked
    F__law_walked := F__law_walked
    b__law_walked := F__law_walked.binds (ps := ["_law_net_here", "_law_state_here", "_law_past"]) (fun _ _ _ _ _ _ us hl => match us, hl with | [_, _, _], _ => rfl)
    g__law_walked := He.glo_ok X G (c.fact 42 (f := .fa (.glo "_law_walked")) rfl)
    a__law_price := d__law_price.adr K
    fd__law_price := fd__law_price
    F__law_price := F__law_price
    b__law_price := F__law_price.binds (ps := ["_law_net_here", "_law_state_here", "_law_past"]) (fun _ _ _ _ _ _ us hl => match us, hl with | [_, _, _], _ => rfl)
    g__law_price := He.glo_ok X G (c.fact 43 (f := .fa (.glo "_law_price")) rfl)
    a__law_right := d__law_right.adr K
    fd__law_right := fd__law_right
    F__law_right := F__law_right
    b__law_right := F__law_right.binds (ps := ["_law_session", "_law_net_here", "_law_start", "_law_past"]) (fun _ _ _ _ _ _ us hl => match us, hl with | [_, _, _, _], _ => rfl)
    g__law_right := He.glo_ok X G (c.fact 44 (f := .fa (.glo "_law_right")) rfl)
    a__law_note := d__law_note.adr K
    fd__law_note := fd__law_note
    F__law_note := F__law_note
    b__law_note := F__law_note.binds (ps := ["_law_draws", "_law_net_here", "_law_state_here", "_law_most"]) (fun _ _ _ _ _ _ us hl => match us, hl with | [_, _, _, _], _ => rfl)
    g__law_note := He.glo_ok X G (c.fact 45 (f := .fa (.glo "_law_note")) rfl)
    a__law_branch_right := d__law_branch_right.adr K
    fd__law_branch_right := fd__law_branch_right
    F__law_branch_right := F__law_branch_right
    b__law_branch_right := F__law_branch_right.binds (ps := ["_law_session", "_law_net_here", "_law_start", "_law_past", "_law_note_here"]) (fun _ _ _ _ _ _ us hl => match us, hl with | [_, _, _, _, _], _ => rfl)
    g__law_branch_right := He.glo_ok X G (c.fact 46 (f := .fa (.glo "_law_branch_right")) rfl)
    a__law_log_right := d__law_log_right.adr K
    fd__law_log_right := fd__law_log_right
    F__law_log_right := F__law_log_right
    b__law_log_right := F__law_log_right.binds (ps := ["_law_draws", "_law_net_here", "_law_chart", "_law_state_here"]) (fun _ _ _ _ _ _ us hl => match us, hl with | [_, _, _, _], _ => rfl)
    g__law_log_right := He.glo_ok X G (c.fact 47 (f := .fa (.glo "_law_log_right")) rfl)
    a_law := d_law.adr K
    fd_law := fd_law
    F_law := F_law
    b_law := F_law.binds (ps := ["_law_script"]) (fun _ _ _ _ _ _ us hl => match us, hl with | [_], _ => rfl)
    g_law := He.glo_ok X G (c.fact 48 (f := .fa (.glo "law")) rfl)
    C_Map := He.ga K "Map"
    g_Map := He.glo_ok X G (c.fact 49 (f := .fa (.glo "Map")) rfl)
    T_Map := isi_ok (c.fact 50 (f := .fa (.cls "Map")) rfl) (c.fact 51 (f := .isi "Map") rfl)
    mk_Map := He.mkr_ok (c.fact 52 (f := .fa (.mkr "Map")) rfl)
    na_Map__places := He.noat_ok (c.fact 53 (f := .fa (.noat "Map" "_places")) rfl)
    na_Map__roads := He.noat_ok (c.fact 54 (f := .fa (.noat "Map" "_roads")) rfl)
    na_Map__prices := He.noat_ok (c.fact 55 (f := .fa (.noat "Map" "_prices")) rfl)
    na_Map__box := He.noat_ok (c.fact 56 (f := .fa (.noat "Map" "_box")) rfl)
    p_Map_places := He.ma K (He.ga K "Map") "places"
    PO_places := prop_ok (c.fact 57 (f := .prop "Map" "places") rfl)
    p_Map_roads := He.ma K (He.ga K "Map") "roads"
    PO_roads := prop_ok (c.fact 58 (f := .prop "Map" "roads") rfl)
    p_Map_prices := He.ma K (He.ga K "Map") "prices"
    PO_prices := prop_ok (c.fact 59 (f := .prop "Map" "prices") rfl)
    p_Map_box := He.ma K (He.ga K "Map") "box"
    PO_box := prop_ok (c.fact 60 (f := .prop "Map" "box") rfl)
    L_Map := He.meth_ok (c.fact 61 (f := .fa (.meth "Map" "__len__")) rfl)
    C_Session := He.ga K "Session"
    g_Session := He.glo_ok X G (c.fact 62 (f := .fa (.glo "Session")) rfl)
    T_Session := isi_ok (c.fact 63 (f := .fa (.cls "Session")) rfl) (c.fact 64 (f := .isi "Session") rfl)
    mk_Session := He.mkr_ok (c.fact 65 (f := .fa (.mkr "Session")) rfl)
    na_Session__chart := He.noat_ok (c.fact 66 (f := .fa (.noat "Session" "_chart")) rfl)
    na_Session__now := He.noat_ok (c.fact 67 (f := .fa (.noat "Session" "_now")) rfl)
    p_Session_state := He.ma K (He.ga K "Session") "state"
    PO_state := prop_ok (c.fact 68 (f := .prop "Session" "state") rfl)
    p_Session_journal := He.ma K (He.ga K "Session") "journal"
    PO_journal := prop_ok (c.fact 69 (f := .prop "Session" "journal") rfl)
    L_Session := He.meth_ok (c.fact 70 (f := .fa (.meth "Session" "__len__")) rfl)
    M_Session___iter__ := He.meth_ok (c.fact 71 (f := .fa (.meth "Session" "__iter__")) rfl)
    M_Session_is_there := He.meth_ok (c.fact 72 (f := .fa (.meth "Session" "is_there")) rfl)
    M_Session_paid := He.meth_ok (c.fact 73 (f := .fa (.meth "Session" "paid")) rfl)
    M_Session_drive := He.meth_ok (c.fact 74 (f := .fa (.meth "Session" "drive")) rfl)
    M_Session_undo := He.meth_ok (c.fact 75 (f := .fa (.meth "Session" "undo")) rfl)
    M_Session_branch := He.meth_ok (c.fact 76 (f := .fa (.meth "Session" "branch")) rfl)
    M_Session_tried := He.meth_ok (c.fact 77 (f := .fa (.meth "Session" "tried")) rfl)
    C_Moment := He.ga K "Moment"
    g_Moment := He.glo_ok X G (c.fact 78 (f := .fa (.glo "Moment")) rfl)
    T_Moment := isi_ok (c.fact 79 (f := .fa (.cls "Moment")) rfl) (c.fact 80 (f := .isi "Moment") rfl)
    mk_Moment := He.mkr_ok (c.fact 81 (f := .fa (.mkr "Moment")) rfl)
    na_Moment_states := He.noat_ok (c.fact 82 (f := .fa (.noat "Moment" "states")) rfl)
    na_Moment_pairs := He.noat_ok (c.fact 83 (f := .fa (.noat "Moment" "pairs")) rfl)
    na_Moment_begin := He.noat_ok (c.fact 84 (f := .fa (.noat "Moment" "begin")) rfl)
    C_NothingDone := He.ga K "NothingDone"
    g_NothingDone := He.glo_ok X G (c.fact 85 (f := .fa (.glo "NothingDone")) rfl)
    e_NothingDone := (He.exc_ok (c.fact 86 (f := .fa (.exc "NothingDone")) rfl)).1
    kp_NothingDone := (He.exc_ok (c.fact 86 (f := .fa (.exc "NothingDone")) rfl)).2.1
    sb_NothingDone := (He.exc_ok (c.fact 86 (f := .fa (.exc "NothingDone")) rfl)).2.2.1
    ty_NothingDone := (He.exc_ok (c.fact 86 (f := .fa (.exc "NothingDone")) rfl)).2.2.2
    xm_NothingDone_NothingDone := He.exm_ok (c.fact 87 (f := .fa (.exm "NothingDone" "NothingDone" true)) rfl)
    n_len := He.free_ok X G (c.fact 88 (f := .fa (.free "len")) rfl)
    n_range := He.free_ok X G (c.fact 89 (f := .fa (.free "range")) rfl)
    n_isinstance := He.free_ok X G (c.fact 90 (f := .fa (.free "isinstance")) rfl)
    n_all := He.free_ok X G (c.fact 91 (f := .fa (.free "all")) rfl)
    n_zip := He.free_ok X G (c.fact 92 (f := .fa (.free "zip")) rfl)
    n_enumerate := He.free_ok X G (c.fact 93 (f := .fa (.free "enumerate")) rfl)
    n_sorted := He.free_ok X G (c.fact 94 (f := .fa (.free "sorted")) rfl)
    n_set := He.free_ok X G (c.fact 95 (f := .fa (.free "set")) rfl)
    n_min := He.free_ok X G (c.fact 96 (f := .fa (.free "min")) rfl)
    n_int := He.free_ok X G (c.fact 97 (f := .fa (.free "int")) rfl)
    n_bool := He.free_ok X G (c.fact 98 (f := .fa (.free "bool")) rfl)
    n_tuple := He.free_ok X G (c.fact 99 (f := .fa (.free "tuple")) rfl)
    n_list := He.free_ok X G (c.fact 100 (f := .fa (.free "list")) rfl)
    n_iter := He.free_ok X G (c.fact 101 (f := .fa (.free "iter")) rfl)
    n_sum := He.free_ok X G (c.fact 102 (f := .fa (.free "sum")) rfl)
    n_abs := He.free_ok X G (c.fact 103 (f := .fa (.free "abs")) rfl)
    k_MOST_PLACES := He.int_ok X G (c.fact 104 (f := .fa (.int "MOST_PLACES" (5))) rfl)
    k_MOST_ROADS := He.int_ok X G (c.fact 105 (f := .fa (.int "MOST_ROADS" (7))) rfl)
    k_MOST_HOURS := He.int_ok X G (c.fact 106 (f := .fa (.int "MOST_HOURS" (4))) rfl)
    k_MOST_MELT := He.int_ok X G (c.fact 107 (f := .fa (.int "MOST_MELT" (3))) rfl)
    k_MOST_PRICE := He.int_ok X G (c.fact 108 (f := .fa (.int "MOST_PRICE" (9))) rfl)
    k_MOST_ROOM := He.int_ok X G (c.fact 109 (f := .fa (.int "MOST_ROOM" (6))) rfl)
    k_MOST_BEAR := He.int_ok X G (c.fact 110 (f := .fa (.int "MOST_BEAR" (2))) rfl)
    k_MOST_LATE := He.int_ok X G (c.fact 111 (f := .fa (.int "MOST_LATE" (4))) rfl)
    k_MOST_PAIRS := He.int_ok X G (c.fact 112 (f := .fa (.int "MOST_PAIRS" (12))) rfl) }⟩
def looseL : List PySem.Str := (["_wall", "CoolError", "BadMap", "BadState", "BadMove", "BadLateness", "BadMore", "Spoiled", "NothingDone", "BadLog", "is_whole", "is_between", "is_group", "first_state", "is_done", "roads_from", "possible_moves", "pairs_from", "move_cost", "pieces_cost", "after_hour", "move_results", "MOST_PLACES", "MOST_ROADS", "MOST_HOURS", "MOST_MELT", "MOST_PRICE", "MOST_ROOM", "MOST_BEAR", "MOST_LATE"] : List PySem.Str) ++ (["Map", "are_roads", "is_road", "are_prices", "is_box", "is_state", "is_move", "check_map", "check_state", "check_lateness", "check_move", "MOST_PAIRS", "after_log", "spent", "melted", "states_with", "states_after", "state_after", "Moment", "Kept", "Trial", "Session", "_law_draw", "_law_cell_at", "_law_digits", "_law_take", "_law_pool", "_law_net", "_law_state", "_law_roads"] : List PySem.Str) ++ (["_law_load", "_law_end", "_law_moves", "_law_cost", "_law_is_empty", "_law_walked", "_law_price", "_law_right", "_law_note", "_law_branch_right", "_law_log_right"] : List PySem.Str)
def asL : List Addr := [3, 6, 4, 21, 31, 51, 63, 75, 87, 99, 111, 123, 142, 151, 158, 165, 172, 179, 184, 191, 196, 203, 210, 217, 224, 287, 296, 303, 308, 315, 320, 327, 334, 341, 348, 355, 362, 367, 372, 379, 386, 393, 410, 431, 466, 571, 582, 589, 596, 603, 610, 615, 622, 627, 634, 641, 646, 653, 660, 667, 672, 677, 684, 691, 696, 703, 20, 30, 50, 62, 74, 86, 98, 110, 122, 141, 150, 157, 164, 171, 178, 183, 190, 195, 202, 209, 216, 223, 286, 295, 302, 307, 314, 319, 326, 333, 340, 347, 354, 361, 366, 371, 378, 385, 392, 409, 430, 465, 570, 581, 588, 595, 602, 609, 614, 621, 626, 633, 640, 645, 652, 659, 666, 671, 676, 683, 690, 695, 702, 15, 16, 17, 18, 19, 29, 32, 48, 49, 61, 73, 85, 97, 109, 121, 139, 140, 145, 146, 147, 148, 149, 152, 153, 154, 155, 156, 159, 160, 161, 162, 163, 166, 167, 168, 169, 170, 173, 174, 175, 176, 177, 180, 181, 182, 185, 186, 187, 188, 189, 192, 193, 194, 197, 198, 199, 200, 201, 204, 205, 206, 207, 208, 211, 212, 213, 214, 215, 218, 219, 220, 221, 222, 238, 246, 254, 262, 270, 277, 284, 285, 288, 289, 292, 293, 294, 297, 298, 299, 300, 301, 304, 305, 306, 309, 310, 311, 312, 313, 316, 317, 318, 321, 322, 323, 324, 325, 328, 329, 330, 331, 332, 335, 336, 337, 338, 339, 342, 343, 344, 345, 346, 349, 350, 351, 352, 353, 356, 357, 358, 359, 360, 363, 364, 365, 368, 369, 370, 373, 374, 375, 376, 377, 380, 381, 382, 383, 384, 387, 388, 389, 390, 391, 407, 408, 411, 412, 428, 429, 432, 433, 449, 456, 463, 464, 467, 468, 484, 492, 500, 507, 514, 521, 526, 533, 540, 547, 554, 561, 568, 569, 572, 573, 576, 577, 578, 579, 580, 583, 584, 585, 586, 587, 590, 591, 592, 593, 594, 597, 598, 599, 600, 601, 604, 605, 606, 607, 608, 611, 612, 613, 616, 617, 618, 619, 620, 623, 624, 625, 628, 629, 630, 631, 632, 635, 636, 637, 638, 639, 642, 643, 644, 647, 648, 649, 650, 651, 654, 655, 656, 657, 658, 661, 662, 663, 664, 665, 668, 669, 670, 673, 674, 675, 678, 679, 680, 681, 682, 685, 686, 687, 688, 689, 692, 693, 694, 697, 698, 699, 700, 701, 47, 138, 237, 245, 253, 261, 269, 276, 283, 406, 427, 448, 455, 462, 483, 491, 499, 506, 513, 520, 525, 532, 539, 546, 553, 560, 567, 42, 43, 44, 45, 46, 133, 134, 135, 136, 137, 232, 233, 234, 235, 236, 244, 252, 260, 268, 271, 272, 273, 274, 275, 278, 279, 280, 281, 282, 401, 402, 403, 404, 405, 422, 423, 424, 425, 426, 443, 444, 445, 446, 447, 450, 451, 452, 453, 454, 457, 458, 459, 460, 461, 478, 479, 480, 481, 482, 490, 498, 501, 502, 503, 504, 505, 508, 509, 510, 511, 512, 515, 516, 517, 518, 519, 522, 523, 524, 527, 528, 529, 530, 531, 534, 535, 536, 537, 538, 541, 542, 543, 544, 545, 548, 549, 550, 551, 552, 555, 556, 557, 558, 559, 562, 563, 564, 565, 566, 239, 240, 241, 242, 243, 247, 248, 249, 250, 251, 255, 256, 257, 258, 259, 263, 264, 265, 266, 267, 485, 486, 487, 488, 489, 493, 494, 495, 496, 497]
abbrev R : PySem.W.OpenRow := PySem.W.OpenLaw.row PySem.Challenge.rw_coolway_k33_whole_logs
abbrev hk : PySem.W.Hook := hookL asL faL fnL
def ob (s : PySem.W.SharedT) : Al := obsL asL faL fnL (HandSHeadRun.getT s)
theorem ob_eq (s : PySem.W.SharedT) : ob s = hk.obs s.abs := obsL_eq (HandSHeadRun.getT_eq s)
theorem run_1 (w : World) : Run1 R 8000 w := by
  intro os
  kernel_rfl
theorem run_2 (w : World) : Run2 R (PySem.W.view R.prog [78]) 8000 looseL w := by
  intro os
  kernel_rfl
theorem run_4a (w : World) : Run4 R asL (fnL.take 33) 8000 w := by
  intro os
  kernel_rfl
theorem run_4b (w : World) : Run4 R asL (fnL.drop 33) 8000 w := by
  intro os
  kernel_rfl
theorem run_5 (w : World) : Run5 R asL (faL.take 56) 8000 w := by
  intro os
  kernel_rfl
theorem run_6 (w : World) : Run5 R asL (faL.drop 56) 8000 w := by
  intro os
  kernel_rfl
theorem run_3 (w : World) : Run3 R hk ob 8000 w := run3_of 56 (run4_of 33 (run_4a w) (run_4b w)) (run_5 w) (run_6 w)
theorem run (w : World) : HandSHeadRun.RunEq R (PySem.W.view R.prog [78]) hk ob 8000 looseL w := runEq (run_1 w) (run_2 w) (run_3 w)
end K33
end
section
set_option Elab.async false
set_option linter.all false

open PySem PySem.W PySem.Calls PyProof.Rows
set_option maxRecDepth 100000 in
set_option maxHeartbeats 0 in
theorem PySem.Challenge.cw_coolway_k33_whole_logs_holds : PySem.Challenge.rw_coolway_k33_whole_logs.Holds := by
  w_on; o_law
  refine HandSHeadRun.head_any (r := OpenLaw.row PySem.Challenge.rw_coolway_k33_whole_logs) (q := view (OpenLaw.row PySem.Challenge.rw_coolway_k33_whole_logs).prog [78]) (H := K33.hk) (ob := K33.ob) (M := 8000) (loose := K33.looseL) (d := HandSHeadRun.topDef (OpenLaw.row PySem.Challenge.rw_coolway_k33_whole_logs).prog 78) (kwd := []) K33.ob_eq
    (by kernel_rfl) (fun s => by kernel_rfl) K33.run (by kernel_rfl) (by kernel_rfl) (by kernel_rfl) (by rfl) (by first | assumption | decide +kernel) (by decide +kernel) ⟨rfl, rfl, rfl, rfl, rfl, by decide +kernel⟩ ?hw ?hc
  case hw => w_witness2
  case hc =>
    refine DLz.walk_bits (l := PySem.Challenge.rw_coolway_k33_whole_logs) (most := 63) (k := 14) (p := "_law_script") rfl (by decide) (by kernel_rfl) ⟨rfl, by decide, by decide⟩ ?F
    intro w mg fa h Y G hmg0
    obtain ⟨K, KX, c⟩ := Y
    have hmg : mg ("law" : PySem.Str) = some (.ref fa) := by
      have e : (HandSHeadRun.topDef (OpenLaw.row PySem.Challenge.rw_coolway_k33_whole_logs).prog 78).name = ("law" : PySem.Str) := by kernel_rfl
      rw [← e]
      exact hmg0
    obtain ⟨T⟩ := K33.txt_of KX G c
    have efa : fa = T.a_law := by
      have z := hmg.symm.trans T.g_law
      cases z
      rfl
    subst efa
    exact ⟨K, T.fd_law, DL.spP K 1 K33.R_law, KX, DLz.binds1 T.F_law (fun _ _ _ _ _ _ _ => rfl), fun H a ns hl hb hS => DLz.law_end hS ⟨ns, hl, hb, rfl, rfl⟩, fun base _ _ => K33.ok_law T⟩
end

/- What two rising lists of pairs differ in, by keys: nothing of the program. -/
import Derived.Test.YtloljphbdfjgdaaGreatDoorK40
namespace Go.Proofs.YtloljphbdfjgdaaGreatDoor
structure Chn where
 k:Int
 o:Option Int
 n:Option Int
def diffL:List (Int × Int)→List (Int × Int)→List Chn
 | [],[]=>[]
 | (k,v) :: x,[]=>⟨k,some v,none⟩ :: diffL x []
 | [],(k,v) :: y=>⟨k,none,some v⟩ :: diffL [] y
 | (k,v) :: x,(j,u) :: y=>if k < j then ⟨k,some v,none⟩ :: diffL x ((j,u) :: y) else if j < k then ⟨j,none,some u⟩ :: diffL ((k,v) :: x) y else if v=u then diffL x y else ⟨k,some v,some u⟩ :: diffL x y
termination_by x y=>x.length+y.length
theorem diffL_left {k v:Int} {x y:List (Int × Int)} (h:∀ b∈y,k < b.1):diffL ((k,v) :: x) y=⟨k,some v,none⟩ :: diffL x y:=by
 cases y with
 | nil=>rw [diffL]
 | cons b y =>
  obtain ⟨j,u⟩:=b
  have:=h (j,u) (by simp)
  simp only at this
  rw [diffL,if_pos this]
theorem diffL_right {k v:Int} {x y:List (Int × Int)} (h:∀ a∈x,k < a.1):diffL x ((k,v) :: y)=⟨k,none,some v⟩ :: diffL x y:=by
 cases x with
 | nil=>rw [diffL]
 | cons b x =>
  obtain ⟨j,u⟩:=b
  have:=h (j,u) (by simp)
  simp only at this
  rw [diffL,if_neg (by omega),if_pos this]
theorem diffL_old:∀ x:List (Int × Int),diffL x []=x.map fun q=>⟨q.1,some q.2,none⟩
 | []=>by rw [diffL]; rfl
 | (k,v) :: x=>by rw [diffL,diffL_old x]; rfl
theorem diffL_new:∀ y:List (Int × Int),diffL [] y=y.map fun q=>⟨q.1,none,some q.2⟩
 | []=>by rw [diffL]; rfl
 | (k,v) :: y=>by rw [diffL,diffL_new y]; rfl
theorem diffL_self:∀ x:List (Int × Int),diffL x x=[]
 | []=>by rw [diffL]
 | (k,v) :: x=>by rw [diffL,if_neg (by omega),if_neg (by omega),if_pos rfl,diffL_self x]
theorem diffL_app {x2 y2:List (Int × Int)} (x1 y1:List (Int × Int)):(∀ a∈x1 ++ y1,∀ b∈x2 ++ y2,a.1 < b.1)→diffL (x1 ++ x2) (y1 ++ y2)=diffL x1 y1 ++ diffL x2 y2:=by
 induction x1,y1 using diffL.induct with
 | case1=>intro h; rw [diffL]; rfl
 | case2 k v x ih =>
  intro h
  have hk:∀ b∈x2 ++ y2,k < b.1:=fun b hb=>h (k,v) (by simp) b hb
  have ih':=ih (fun a ha b hb=>h a (by simp only [List.append_nil] at ha; simp [ha]) b hb)
  rw [List.nil_append] at ih' ⊢
  rw [List.cons_append,diffL_left (fun b hb=>hk b (by simp [hb])),ih',diffL]
  rfl
 | case3 k v y ih =>
  intro h
  have hk:∀ b∈x2 ++ y2,k < b.1:=fun b hb=>h (k,v) (by simp) b hb
  have ih':=ih (fun a ha b hb=>h a (by simp only [List.nil_append] at ha; simp [ha]) b hb)
  rw [List.nil_append] at ih' ⊢
  rw [List.cons_append,diffL_right (fun b hb=>hk b (by simp [hb])),ih',diffL]
  rfl
 | case4 k v x j u y hlt ih =>
  intro h
  rw [List.cons_append,List.cons_append,diffL,if_pos hlt,diffL,if_pos hlt,List.cons_append]
  congr 1
  rw [← List.cons_append]
  exact ih (fun a ha b hb=>h a (by simp at ha ⊢; rcases ha with h | h | h <;> simp [h]) b hb)
 | case5 k v x j u y h1 h2 ih =>
  intro h
  rw [List.cons_append,List.cons_append,diffL,if_neg h1,if_pos h2,diffL,if_neg h1,if_pos h2,List.cons_append]
  congr 1
  rw [← List.cons_append]
  exact ih (fun a ha b hb=>h a (by simp at ha ⊢; rcases ha with h | h | h <;> simp [h]) b hb)
 | case6 k x j u y h1 h2 ih =>
  intro h
  rw [List.cons_append,List.cons_append,diffL,if_neg h1,if_neg h2,if_pos rfl,diffL,if_neg h1,if_neg h2,if_pos rfl]
  exact ih (fun a ha b hb=>h a (by simp at ha ⊢; rcases ha with h | h <;> simp [h]) b hb)
 | case7 k v x j u y h1 h2 h3 ih =>
  intro h
  rw [List.cons_append,List.cons_append,diffL,if_neg h1,if_neg h2,if_neg h3,diffL,if_neg h1,if_neg h2,if_neg h3,List.cons_append]
  congr 1
  exact ih (fun a ha b hb=>h a (by simp at ha ⊢; rcases ha with h | h <;> simp [h]) b hb)
theorem diffL_key (x y:List (Int × Int)):∀ c∈diffL x y,(∃ a∈x,a.1=c.k)∨∃ b∈y,b.1=c.k:=by
 induction x,y using diffL.induct with
 | case1=>intro c hc; rw [diffL] at hc; cases hc
 | case2 k v x ih =>
  intro c hc
  rw [diffL] at hc
  rcases List.mem_cons.1 hc with rfl | hc
  ·exact .inl ⟨_,List.mem_cons_self,rfl⟩
  ·rcases ih c hc with ⟨a,h1,h2⟩ | ⟨a,h1,h2⟩
   ·exact .inl ⟨a,by simp [h1],h2⟩
   ·exact .inr ⟨a,by simp [h1],h2⟩
 | case3 k v y ih =>
  intro c hc
  rw [diffL] at hc
  rcases List.mem_cons.1 hc with rfl | hc
  ·exact .inr ⟨_,List.mem_cons_self,rfl⟩
  ·rcases ih c hc with ⟨a,h1,h2⟩ | ⟨a,h1,h2⟩
   ·exact .inl ⟨a,by simp [h1],h2⟩
   ·exact .inr ⟨a,by simp [h1],h2⟩
 | case4 k v x j u y hlt ih =>
  intro c hc
  rw [diffL,if_pos hlt] at hc
  rcases List.mem_cons.1 hc with rfl | hc
  ·exact .inl ⟨_,List.mem_cons_self,rfl⟩
  ·rcases ih c hc with ⟨a,h1,h2⟩ | ⟨a,h1,h2⟩
   ·exact .inl ⟨a,by simp [h1],h2⟩
   ·exact .inr ⟨a,h1,h2⟩
 | case5 k v x j u y h1 h2 ih =>
  intro c hc
  rw [diffL,if_neg h1,if_pos h2] at hc
  rcases List.mem_cons.1 hc with rfl | hc
  ·exact .inr ⟨_,List.mem_cons_self,rfl⟩
  ·rcases ih c hc with ⟨a,h1,h2⟩ | ⟨a,h1,h2⟩
   ·exact .inl ⟨a,h1,h2⟩
   ·exact .inr ⟨a,by simp [h1],h2⟩
 | case6 k x j u y h1 h2 ih =>
  intro c hc
  rw [diffL,if_neg h1,if_neg h2,if_pos rfl] at hc
  rcases ih c hc with ⟨a,h1,h2⟩ | ⟨a,h1,h2⟩
  ·exact .inl ⟨a,by simp [h1],h2⟩
  ·exact .inr ⟨a,by simp [h1],h2⟩
 | case7 k v x j u y h1 h2 h3 ih =>
  intro c hc
  rw [diffL,if_neg h1,if_neg h2,if_neg h3] at hc
  rcases List.mem_cons.1 hc with rfl | hc
  ·exact .inl ⟨_,List.mem_cons_self,rfl⟩
  ·rcases ih c hc with ⟨a,h1,h2⟩ | ⟨a,h1,h2⟩
   ·exact .inl ⟨a,by simp [h1],h2⟩
   ·exact .inr ⟨a,by simp [h1],h2⟩
theorem getL_low {l:List (Int × Int)} {k:Int} (h:∀ q∈l,k < q.1) (hr:Rise l):getL l k=none:=by
 cases hg:getL l k with
 | none=>rfl
 | some v=>have:=h _ ((getL_mem hr).1 hg); simp only at this; omega
theorem diffL_low {x y:List (Int × Int)} {k:Int} (hx:∀ a∈x,k < a.1) (hy:∀ b∈y,k < b.1):∀ c∈diffL x y,k < c.k:=fun c hc=>by
 rcases diffL_key x y c hc with ⟨a,h1,h2⟩ | ⟨a,h1,h2⟩
 ·have:=hx a h1; omega
 ·have:=hy a h1; omega
theorem diffL_rise (x y:List (Int × Int)):Rise x→Rise y→(diffL x y).Pairwise fun a b=>a.k < b.k:=by
 induction x,y using diffL.induct with
 | case1=>intro _ _; rw [diffL]; exact List.Pairwise.nil
 | case2 k v x ih =>
  intro hx hy
  have h1:=List.pairwise_cons.1 hx
  rw [diffL]
  exact List.pairwise_cons.2 ⟨diffL_low h1.1 (fun b hb=>by cases hb),ih h1.2 hy⟩
 | case3 k v y ih =>
  intro hx hy
  have h1:=List.pairwise_cons.1 hy
  rw [diffL]
  exact List.pairwise_cons.2 ⟨diffL_low (fun b hb=>by cases hb) h1.1,ih hx h1.2⟩
 | case4 k v x j u y hlt ih =>
  intro hx hy
  have h1:=List.pairwise_cons.1 hx
  have h2:=List.pairwise_cons.1 hy
  rw [diffL,if_pos hlt]
  refine List.pairwise_cons.2 ⟨diffL_low h1.1 (fun b hb=>?_),ih h1.2 hy⟩
  rcases List.mem_cons.1 hb with rfl | hb
  ·exact hlt
  ·have:=h2.1 b hb; simp only at this ⊢; omega
 | case5 k v x j u y e1 e2 ih =>
  intro hx hy
  have h1:=List.pairwise_cons.1 hx
  have h2:=List.pairwise_cons.1 hy
  rw [diffL,if_neg e1,if_pos e2]
  refine List.pairwise_cons.2 ⟨diffL_low (fun b hb=>?_) h2.1,ih hx h2.2⟩
  rcases List.mem_cons.1 hb with rfl | hb
  ·exact e2
  ·have:=h1.1 b hb; simp only at this ⊢; omega
 | case6 k x j u y e1 e2 ih =>
  intro hx hy
  rw [diffL,if_neg e1,if_neg e2,if_pos rfl]
  exact ih (List.pairwise_cons.1 hx).2 (List.pairwise_cons.1 hy).2
 | case7 k v x j u y e1 e2 e3 ih =>
  intro hx hy
  have h1:=List.pairwise_cons.1 hx
  have h2:=List.pairwise_cons.1 hy
  have e:k=j:=by omega
  subst e
  rw [diffL,if_neg e1,if_neg e2,if_neg e3]
  exact List.pairwise_cons.2 ⟨diffL_low h1.1 h2.1,ih h1.2 h2.2⟩
theorem diffL_tells (x y:List (Int × Int)):Rise x→Rise y→(∀ c∈diffL x y,c.o=getL x c.k∧c.n=getL y c.k∧c.o≠c.n)∧∀ k,(∀ c∈diffL x y,c.k≠k)→getL x k=getL y k:=by
 induction x,y using diffL.induct with
 | case1=>intro _ _; rw [diffL]; exact ⟨(fun c hc=>by cases hc),fun _ _=>rfl⟩
 | case2 k v x ih =>
  intro hx hy
  have h1:=List.pairwise_cons.1 hx
  obtain ⟨i1,i2⟩:=ih h1.2 hy
  have hlow:=diffL_low (x:=x) (y:=[]) (k:=k) h1.1 (fun b hb=>by cases hb)
  rw [diffL]
  refine ⟨fun c hc=>?_,fun q hq=>?_⟩
  ·rcases List.mem_cons.1 hc with rfl | hc
   ·rw [getL_cons _ _ _ hx,if_pos rfl]; exact ⟨rfl,rfl,by simp⟩
   ·have:=hlow c hc
    rw [getL_cons _ _ _ hx,if_neg (by simp only; omega)]
    exact i1 c hc
  ·have hk:k≠q:=hq ⟨k,some v,none⟩ (by simp)
   rw [getL_cons _ _ _ hx,if_neg hk]
   exact i2 q (fun c hc=>hq c (by simp [hc]))
 | case3 k v y ih =>
  intro hx hy
  have h1:=List.pairwise_cons.1 hy
  obtain ⟨i1,i2⟩:=ih hx h1.2
  have hlow:=diffL_low (x:=[]) (y:=y) (k:=k) (fun b hb=>by cases hb) h1.1
  rw [diffL]
  refine ⟨fun c hc=>?_,fun q hq=>?_⟩
  ·rcases List.mem_cons.1 hc with rfl | hc
   ·rw [getL_cons _ _ _ hy,if_pos rfl]; exact ⟨rfl,rfl,by simp⟩
   ·have:=hlow c hc
    rw [getL_cons _ _ _ hy,if_neg (by simp only; omega)]
    exact i1 c hc
  ·have hk:k≠q:=hq ⟨k,none,some v⟩ (by simp)
   rw [getL_cons _ _ _ hy,if_neg hk]
   exact i2 q (fun c hc=>hq c (by simp [hc]))
 | case4 k v x j u y hlt ih =>
  intro hx hy
  have h1:=List.pairwise_cons.1 hx
  have h2:=List.pairwise_cons.1 hy
  obtain ⟨i1,i2⟩:=ih h1.2 hy
  have hyl:∀ b∈(j,u) :: y,k < b.1:=fun b hb=>by
   rcases List.mem_cons.1 hb with rfl | hb
   ·exact hlt
   ·have:=h2.1 b hb; simp only at this ⊢; omega
  have hlow:=diffL_low (x:=x) (y:=(j,u) :: y) (k:=k) h1.1 hyl
  rw [diffL,if_pos hlt]
  refine ⟨fun c hc=>?_,fun q hq=>?_⟩
  ·rcases List.mem_cons.1 hc with rfl | hc
   ·rw [getL_cons _ _ _ hx,if_pos rfl,getL_low hyl hy]; exact ⟨rfl,rfl,by simp⟩
   ·have:=hlow c hc
    rw [getL_cons _ _ _ hx,if_neg (by simp only; omega)]
    exact i1 c hc
  ·have hk:k≠q:=hq ⟨k,some v,none⟩ (by simp)
   rw [getL_cons _ _ _ hx,if_neg hk]
   exact i2 q (fun c hc=>hq c (by simp [hc]))
 | case5 k v x j u y e1 e2 ih =>
  intro hx hy
  have h1:=List.pairwise_cons.1 hx
  have h2:=List.pairwise_cons.1 hy
  obtain ⟨i1,i2⟩:=ih hx h2.2
  have hxl:∀ b∈(k,v) :: x,j < b.1:=fun b hb=>by
   rcases List.mem_cons.1 hb with rfl | hb
   ·exact e2
   ·have:=h1.1 b hb; simp only at this ⊢; omega
  have hlow:=diffL_low (x:=(k,v) :: x) (y:=y) (k:=j) hxl h2.1
  rw [diffL,if_neg e1,if_pos e2]
  refine ⟨fun c hc=>?_,fun q hq=>?_⟩
  ·rcases List.mem_cons.1 hc with rfl | hc
   ·rw [getL_cons _ _ _ hy,if_pos rfl,getL_low hxl hx]; exact ⟨rfl,rfl,by simp⟩
   ·have:=hlow c hc
    rw [getL_cons (j,u) _ _ hy,if_neg (by simp only; omega)]
    exact i1 c hc
  ·have hk:j≠q:=hq ⟨j,none,some u⟩ (by simp)
   rw [getL_cons (j,u) _ _ hy,if_neg hk]
   exact i2 q (fun c hc=>hq c (by simp [hc]))
 | case6 k x j u y e1 e2 ih =>
  intro hx hy
  have h1:=List.pairwise_cons.1 hx
  have h2:=List.pairwise_cons.1 hy
  obtain ⟨i1,i2⟩:=ih h1.2 h2.2
  have e:k=j:=by omega
  subst e
  have hlow:=diffL_low h1.1 h2.1
  rw [diffL,if_neg e1,if_neg e2,if_pos rfl]
  refine ⟨fun c hc=>?_,fun q hq=>?_⟩
  ·have:=hlow c hc
   simp only at this
   rw [getL_cons _ _ _ hx,if_neg (by simp only; omega),getL_cons _ _ _ hy,if_neg (by simp only; omega)]
   exact i1 c hc
  ·rw [getL_cons _ _ _ hx,getL_cons _ _ _ hy]
   split
   ·rfl
   ·exact i2 q hq
 | case7 k v x j u y e1 e2 e3 ih =>
  intro hx hy
  have h1:=List.pairwise_cons.1 hx
  have h2:=List.pairwise_cons.1 hy
  obtain ⟨i1,i2⟩:=ih h1.2 h2.2
  have e:k=j:=by omega
  subst e
  have hlow:=diffL_low h1.1 h2.1
  rw [diffL,if_neg e1,if_neg e2,if_neg e3]
  refine ⟨fun c hc=>?_,fun q hq=>?_⟩
  ·rcases List.mem_cons.1 hc with rfl | hc
   ·rw [getL_cons _ _ _ hx,getL_cons _ _ _ hy,if_pos rfl,if_pos rfl]; exact ⟨rfl,rfl,by simpa using e3⟩
   ·have:=hlow c hc
    simp only at this
    rw [getL_cons _ _ _ hx,if_neg (by simp only; omega),getL_cons _ _ _ hy,if_neg (by simp only; omega)]
    exact i1 c hc
  ·have hk:k≠q:=hq ⟨k,some v,some u⟩ (by simp)
   rw [getL_cons _ _ _ hx,getL_cons _ _ _ hy,if_neg hk,if_neg hk]
   exact i2 q (fun c hc=>hq c (by simp [hc]))
end Go.Proofs.YtloljphbdfjgdaaGreatDoor

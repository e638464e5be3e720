"""Yards of several posts that share their hands, what is done at one coming to another."""

from waithands.beats import beat
from waithands.errors import BadYard, NoName
from waithands.posts import first_stand, hands_of
from waithands.words import MOST_HANDS, is_name

MOST_POSTS = 5
MOST_TOTAL = 60


class Yard:
    """Posts in their order, how each stands, and what their beats told."""

    def __init__(self, total, posts, stands=None):
        check_posts(total, posts)
        if stands is None:
            stands = [first_stand(post) for name, post, onward in posts]
        check_stands(total, posts, stands)
        self.total = total
        self.order = [name for name, post, onward in posts]
        self.posts = {name: post for name, post, onward in posts}
        self.onwards = {name: onward for name, post, onward in posts}
        self.stands = dict(zip(self.order, stands))
        self.tallies = {name: (0, 0, 0) for name in self.order}
        self.past = []

    def beat(self, comes):
        """The list of tuples (name, come, done, away, change) of a beat of each post."""
        self.check_names([name for name, come in comes])
        coming = {name: 0 for name in self.order}
        for name, come in comes:
            coming[name] = come
        rows = []
        for name in self.order:
            row = self.post_beat(name, coming[name])
            onward = self.onwards[name]
            if onward is not None:
                coming[onward] += row[2]
            rows.append(row)
        self.past.append(rows)
        return list(rows)

    def post_beat(self, name, come):
        """The tuple (name, come, done, away, change) of a beat of one post."""
        free = min(self.total - self.hands(), MOST_HANDS)
        stand, done, away, change = beat(self.posts[name], self.stands[name], come, free)
        self.stands[name] = stand
        all_come, all_done, all_away = self.tallies[name]
        self.tallies[name] = (all_come + come, all_done + done, all_away + away)
        return (name, come, done, away, change)

    def check_names(self, names):
        """Refuses names that are no posts' or stand twice."""
        if len(set(names)) < len(names) or not all([name in self.order for name in names]):
            raise NoName("a name is no post's, or stands twice")

    def names(self):
        """The list of the posts' names."""
        return list(self.order)

    def post(self, name):
        """The post that has this name now."""
        self.check_names([name])
        return self.posts[name]

    def stand(self, name):
        """How the post stands now."""
        self.check_names([name])
        return self.stands[name]

    def onward(self, name):
        """The name of the post to which comes what is done here, or None."""
        self.check_names([name])
        return self.onwards[name]

    def counts(self, name):
        """The triple (came, done, away) of all beats."""
        self.check_names([name])
        return self.tallies[name]

    def hands(self):
        """How many hands all posts have together."""
        return sum([hands_of(stand) for stand in self.stands.values()])

    def beats(self):
        """How many beats there were."""
        return len(self.past)

    def change(self, name, post):
        """Puts another post in the place of the one of this name."""
        self.check_names([name])
        others = [self.posts[other] for other in self.order if other != name]
        check_least(self.total, others + [post])
        self.posts[name] = post

    def lead(self, name, onward):
        """Lets what is done at a post come to another one, or to none."""
        self.check_names([name])
        check_onward(onward, self.order[self.order.index(name) + 1:])
        self.onwards[name] = onward

    def rows(self):
        """The list of tuples (name, post, onward) as they are now."""
        return [(name, self.posts[name], self.onwards[name]) for name in self.order]

    def told(self):
        """The list of what each beat told."""
        return [list(rows) for rows in self.past]

    def twin(self):
        """Another yard that stands as this one."""
        other = Yard(self.total, self.rows(), [self.stands[name] for name in self.order])
        other.tallies = dict(self.tallies)
        other.past = self.told()
        return other


def check_posts(total, posts):
    """Refuses what can't be the posts of a yard with so many hands."""
    if not 1 <= len(posts) <= MOST_POSTS:
        raise BadYard(f"a yard has one to {MOST_POSTS} posts")
    names = [name for name, post, onward in posts]
    if len(set(names)) < len(names) or not all([is_name(name) for name in names]):
        raise BadYard("a name is none, or stands twice")
    for place, (name, post, onward) in enumerate(posts):
        check_onward(onward, names[place + 1:])
    check_least(total, [post for name, post, onward in posts])


def check_least(total, posts):
    """Refuses posts whose least hands are more than there are."""
    if sum([post[2][0] for post in posts]) > total:
        raise BadYard("the least hands are more than there are")


def check_onward(onward, behind):
    """Refuses an onward that isn't one of the posts behind."""
    if onward is not None and onward not in behind:
        raise BadYard("an onward is no post's further behind")


def check_stands(total, posts, stands):
    """Refuses what can't be the stands of these posts."""
    if len(stands) != len(posts):
        raise BadYard("not as many stands as posts")
    if sum([hands_of(stand) for stand in stands]) > total:
        raise BadYard("the stands have more hands than there are")
